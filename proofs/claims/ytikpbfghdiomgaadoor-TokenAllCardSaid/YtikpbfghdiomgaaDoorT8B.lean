/-
  The given package gavotteref08's Scan over this seat's translation. Conditions: those that each theorem states.
-/
import Derived.Test.YtikpbfghdiomgaaDoorT8H
namespace Go.Proofs.YtikpbfghdiomgaaDoor
open Go.RowKit Go.Lib Tk

set_option maxHeartbeats 32000000 in
set_option maxRecDepth 100000 in
theorem rscan_c (s : ByteArray) (hmax : s.size ≤ 9223372036854775807) (w : World) : Calls Tryd.prog 10 #[.string s] w fun e w' => ScA w s e w' := by
  obtain ⟨i0, hi0, hz0, hz1, hz2⟩ := info_parts infoTk
  by_cases hbig : s.size ≤ 16384
  · have hd0 : decide ((s.size : Int) > 16384) = false := decide_eq_false (by omega)
    have hd1 : decide (16384 < s.size) = false := decide_eq_false (by omega)
    have H0 : Hid (ScI w s [] 0 (.slice none 0 0) w) := Lib.hid ⟨World.ownsRow_nil _ _ _ _, Below.refl _ _, Go8.start s, Nat.le_refl _⟩
    go_enter Tryd.func10, Tryd.ntmps10
    go_wp2
    go_loopw [5, 6] (fun v5 v6 wr => ∃ (us : List Tk.W) (p : Nat) (vv : Value), vv = v5 ∧ v6 = .int .i64 (p : Int) ∧ p ≤ s.size ∧ Hid (ScI w s us p vv wr)) (fun _ v _ => s.size - (intOf v).toNat)
    case atStart => exact ⟨[], 0, _, rfl, rfl, Nat.zero_le _, H0⟩
    case round =>
      clear H0
      obtain ⟨us, p, v5, rfl, rfl, hp, HS⟩ := hrel
      by_cases hlt : p < s.size
      · have hp0 : (0 : Int) ≤ (p : Int) := by omega
        have hpz : (p : Int) < (s.size : Int) := by omega
        have hri : IntKind.i64.wrap ((p : Int) + 1) = ((p + 1 : Nat) : Int) := by rw [IntKind.wrap_i64] <;> omega
        obtain ⟨x, hx⟩ : ∃ x : Int, ((s[p].toNat : Nat) : Int) = x := ⟨_, rfl⟩
        have HX := Lib.hid hx
        have hcs := bs_drop s hlt
        by_cases hB : isB s[p] = true
        · have h3 : x = 32 ∨ x = 9 ∨ x = 10 := by
            have := of_decide_eq_true (show decide (s[p].toNat = 32 ∨ s[p].toNat = 9 ∨ s[p].toNat = 10) = true from hB)
            omega
          have HN : Hid (ScI w s us (p + 1) v5 wr) := Lib.hid ⟨HS.out.row, HS.out.below, HS.out.go.blank hlt hB, by have := HS.out.cnt; omega⟩
          rcases h3 with h3 | h3 | h3
          · have e32 : (x == 32) = true := by rw [beq_iff_eq]; exact h3
            clear h3 hB
            go_wp2
            go_roundw
            case rel => exact ⟨us, p + 1, _, rfl, rfl, by omega, HN⟩
            case measure => simp [intOf]; omega
          · have e32 : (x == 32) = false := beq_eq_false_iff_ne.2 (by omega)
            have e9 : (x == 9) = true := by rw [beq_iff_eq]; exact h3
            clear h3 hB
            go_wp2
            go_roundw
            case rel => exact ⟨us, p + 1, _, rfl, rfl, by omega, HN⟩
            case measure => simp [intOf]; omega
          · have e32 : (x == 32) = false := beq_eq_false_iff_ne.2 (by omega)
            have e9 : (x == 9) = false := beq_eq_false_iff_ne.2 (by omega)
            have e10 : (x == 10) = true := by rw [beq_iff_eq]; exact h3
            clear h3 hB
            go_wp2
            go_roundw
            case rel => exact ⟨us, p + 1, _, rfl, rfl, by omega, HN⟩
            case measure => simp [intOf]; omega
        · by_cases h35 : s[p].toNat = 35
          · as_aux_lemma =>
              have h3 : x = 35 := by omega
              have e32 : (x == 32) = false := beq_eq_false_iff_ne.2 (by omega)
              have e9 : (x == 9) = false := beq_eq_false_iff_ne.2 (by omega)
              have e10 : (x == 10) = false := beq_eq_false_iff_ne.2 (by omega)
              have e35 : (x == 35) = true := by rw [beq_iff_eq]; exact h3
              have H35 := Lib.hid h35
              have HR0 : Hid (Run isE s p p) := Lib.hid (Run.nil isE s p)
              clear h3 h35 hB
              go_wp2
              go_loopw [6] (fun v wr2 => ∃ k : Nat, v = .int .i64 (k : Int) ∧ p ≤ k ∧ k ≤ s.size ∧ wr2 = wr ∧ Hid (Run isE s p k)) (fun v _ => s.size - (intOf v).toNat)
              case atStart => exact ⟨p, rfl, Nat.le_refl _, hp, rfl, HR0⟩
              case round =>
                clear HR0
                obtain ⟨k, rfl, hpk, hks, rfl, HR⟩ := hrel
                by_cases hkl : k < s.size
                · have hk0 : (0 : Int) ≤ (k : Int) := by omega
                  have hkz : (k : Int) < (s.size : Int) := by omega
                  have hrk : IntKind.i64.wrap ((k : Int) + 1) = ((k + 1 : Nat) : Int) := by rw [IntKind.wrap_i64] <;> omega
                  obtain ⟨y, hy⟩ : ∃ y : Int, ((s[k].toNat : Nat) : Int) = y := ⟨_, rfl⟩
                  by_cases h10 : y = 10
                  · have e10 : (y != 10) = false := by rw [h10]; rfl
                    have hE : isE s[k] = false := by unfold isE; rw [decide_eq_true (by omega)]; rfl
                    have hpk2 : p ≠ k := by
                      rintro rfl
                      have := H35.out
                      omega
                    have HN : Hid (ScI w s us k v5 wr) := Lib.hid ⟨HS.out.row, HS.out.below, HS.out.go.rem hlt H35.out (Run.len (by omega) hks (fun i hi a b => HR.out i hi (by omega) b) (fun _ => hE)) (by omega), by have := HS.out.cnt; omega⟩
                    clear h10 hE
                    go_wp2
                    go_roundw
                    case rel => exact ⟨us, k, _, rfl, rfl, hks, HN⟩
                    case measure => simp [intOf]; omega
                  · have e10 : (y != 10) = true := by simpa using h10
                    have HR2 := Lib.hid (HR.out.next hkl (show isE s[k] = true from by unfold isE; rw [decide_eq_false (by omega)]; rfl))
                    clear h10
                    go_wp2
                    go_roundw
                    case rel => exact ⟨k + 1, rfl, by omega, by omega, (by first | rfl | trivial), HR2⟩
                    case measure => simp [intOf]; omega
                · obtain rfl : k = s.size := by omega
                  have HN : Hid (ScI w s us s.size v5 wr) := Lib.hid ⟨HS.out.row, HS.out.below, HS.out.go.rem hlt H35.out (Run.len (by omega) hks (fun i hi a b => HR.out i hi (by omega) b) (fun h => absurd h hkl)) (by omega), by have := HS.out.cnt; omega⟩
                  go_wp2
                  go_roundw
                  case rel => exact ⟨us, s.size, _, rfl, rfl, hks, HN⟩
                  case measure => simp [intOf]; omega
          · have hBf : isB s[p] = false := by simpa using hB
            have hnb : ¬ (s[p].toNat = 32 ∨ s[p].toNat = 9 ∨ s[p].toNat = 10) := of_decide_eq_false (show decide (s[p].toNat = 32 ∨ s[p].toNat = 9 ∨ s[p].toNat = 10) = false from hBf)
            have e32 : (x == 32) = false := beq_eq_false_iff_ne.2 (by omega)
            have e9 : (x == 9) = false := beq_eq_false_iff_ne.2 (by omega)
            have e10 : (x == 10) = false := beq_eq_false_iff_ne.2 (by omega)
            have e35 : (x == 35) = false := beq_eq_false_iff_ne.2 (by omega)
            have KL := Lib.hid (show ∀ w1, Calls Tryd.prog 14 #[.int .u8 x] w1 fun e w' => e = .returned (.bool (isL s[p])) ∧ w1 = w' from fun w1 => by rw [← hx]; exact letter8_c _ w1)
            have KD := Lib.hid (show ∀ w1, Calls Tryd.prog 15 #[.int .u8 x] w1 fun e w' => e = .returned (.bool (isD s[p])) ∧ w1 = w' from fun w1 => by rw [← hx]; exact digit8_c _ w1)
            clear hnb
            by_cases hL : isL s[p] = true
            · as_aux_lemma =>
                have h39 : s[p].toNat ≠ 39 := by
                  have : 97 ≤ s[p].toNat ∧ s[p].toNat ≤ 122 := of_decide_eq_true (show decide (97 ≤ s[p].toNat ∧ s[p].toNat ≤ 122) = true from hL)
                  omega
                have e39 : (x == 39) = false := beq_eq_false_iff_ne.2 (by omega)
                have hpe : ((p : Int) == (s.size : Int)) = false := beq_eq_false_iff_ne.2 (by omega)
                have HWD := Lib.hid (show ∀ k, p ≤ k → k ≤ s.size → Run isN s p k → (∀ hk : k < s.size, isN s[k] = false) → _ from fun k a b c d => word_Nk hlt hL a b c d)
                have HPQ := Lib.hid (show ∀ k, p ≤ k → (∀ hk : k < s.size, isN s[k] = false) → p < k from fun k a b => by
                  rcases Nat.lt_or_ge p k with h | h
                  · exact h
                  · exfalso
                    have h0 : p = k := by omega
                    subst h0
                    have := b hlt
                    rw [isN_L hL] at this
                    exact absurd this (by decide))
                have H35 := Lib.hid h35
                rw [hL] at KL
                clear hL h39 h35 hB hcs
                have HR0 : Hid (Run isN s p p) := Lib.hid (Run.nil isN s p)
                go_wp2_with (first | (go_at_call 14; refine (KL.out _).mono ?_; rintro e w6 ⟨rfl, rfl⟩) | (go_at_call 15; refine (KD.out _).mono ?_; rintro e w6 ⟨rfl, rfl⟩))
                go_loopw [6] (fun v wr2 => ∃ k : Nat, v = .int .i64 (k : Int) ∧ p ≤ k ∧ k ≤ s.size ∧ wr2 = wr ∧ Hid (Run isN s p k)) (fun v _ => s.size - (intOf v).toNat)
                case atStart => exact ⟨p, rfl, Nat.le_refl _, by omega, rfl, HR0⟩
                case round =>
                  clear HR0
                  obtain ⟨k, rfl, hpk, hks, rfl, HR⟩ := hrel
                  by_cases hkl : k < s.size
                  · have hk0 : (0 : Int) ≤ (k : Int) := by omega
                    have hkz : (k : Int) < (s.size : Int) := by omega
                    have hrk : IntKind.i64.wrap ((k : Int) + 1) = ((k + 1 : Nat) : Int) := by rw [IntKind.wrap_i64] <;> omega
                    obtain ⟨y, hy⟩ : ∃ y : Int, ((s[k].toNat : Nat) : Int) = y := ⟨_, rfl⟩
                    have KYL := Lib.hid (show ∀ w1, Calls Tryd.prog 14 #[.int .u8 y] w1 fun e w' => e = .returned (.bool (isL s[k])) ∧ w1 = w' from fun w1 => by rw [← hy]; exact letter8_c _ w1)
                    have KYD := Lib.hid (show ∀ w1, Calls Tryd.prog 15 #[.int .u8 y] w1 fun e w' => e = .returned (.bool (isD s[k])) ∧ w1 = w' from fun w1 => by rw [← hy]; exact digit8_c _ w1)
                    by_cases hLk : isL s[k] = true
                    · rw [hLk] at KYL
                      have HQ := Lib.hid (HR.out.next hkl (isN_L hLk))
                      clear hLk
                      go_wp2_with (first | (go_at_call 14; refine (KYL.out _).mono ?_; rintro e w6 ⟨rfl, rfl⟩) | (go_at_call 15; refine (KYD.out _).mono ?_; rintro e w6 ⟨rfl, rfl⟩))
                      go_roundw
                      case rel => exact ⟨k + 1, rfl, by omega, by omega, (by first | rfl | trivial), HQ⟩
                      case measure => simp [intOf]; omega
                    · have hLkf : isL s[k] = false := by simpa using hLk
                      rw [hLkf] at KYL
                      clear hLk
                      by_cases hDk : isD s[k] = true
                      · rw [hDk] at KYD
                        have HQ := Lib.hid (HR.out.next hkl (isN_D hDk))
                        clear hDk hLkf
                        go_wp2_with (first | (go_at_call 14; refine (KYL.out _).mono ?_; rintro e w6 ⟨rfl, rfl⟩) | (go_at_call 15; refine (KYD.out _).mono ?_; rintro e w6 ⟨rfl, rfl⟩))
                        go_roundw
                        case rel => exact ⟨k + 1, rfl, by omega, by omega, (by first | rfl | trivial), HQ⟩
                        case measure => simp [intOf]; omega
                      · have hDkf : isD s[k] = false := by simpa using hDk
                        rw [hDkf] at KYD
                        have HE0 : Hid (∀ hk : k < s.size, isN s[k] = false) := Lib.hid fun _ => isN_no hLkf hDkf
                        clear hDk hDkf hLkf
                        have hrs : IntKind.i64.wrap ((k : Int) - (p : Int)) = (k : Int) - (p : Int) := by rw [IntKind.wrap_i64] <;> omega
                        have hqk : (p : Int) ≤ (k : Int) := by omega
                        have hkz2 : (k : Int) ≤ (s.size : Int) := by omega
                        have hq00 : (0 : Int) ≤ (p : Int) := by omega
                        have HWK := Lib.hid (HWD.out k hpk hks HR.out HE0.out)
                        by_cases h16 : 16 < (k : Int) - (p : Int)
                        · have e1 : decide ((k : Int) - (p : Int) > 16) = true := decide_eq_true h16
                          have HE := Lib.hid (HS.out.go.err hlt hbig hBf H35.out (e := 9) (HWK.out.trans (if_pos (by omega))) (by decide))
                          go_wp2_with (first | (go_at_call 14; refine (KYL.out _).mono ?_; rintro e w6 ⟨rfl, rfl⟩) | (go_at_call 15; refine (KYD.out _).mono ?_; rintro e w6 ⟨rfl, rfl⟩))
                          exact bodyPost_ret (v := .tuple #[.slice none 0 0, .int .i64 (p : Int), .int .i64 9]) (by simp [results, Tryd.results10, go_sem]) rfl (scA_no HE.out HS.out.below)
                        · have e1 : decide ((k : Int) - (p : Int) > 16) = false := decide_eq_false h16
                          have e1'' : decide ((16 : Int) < (k : Int) - (p : Int)) = false := decide_eq_false h16
                          have HG := Lib.hid (show us.length + 1 ≤ 16384 from by have := HS.out.cnt; omega)
                          have HGO := Lib.hid (HS.out.go.word hlt (HWK.out.trans (if_neg (by omega))))
                          have hpk2 := HPQ.out k hpk HE0.out
                          go_wp2_with (first | (go_at_call 14; refine (KYL.out _).mono ?_; rintro e w6 ⟨rfl, rfl⟩) | (go_at_call 15; refine (KYD.out _).mono ?_; rintro e w6 ⟨rfl, rfl⟩) | (at_builtin; refine wpList_append_own_at _ rfl _ _ 31 rfl w.heap.size 41 i0 (.agg #[.int .i64 0, .string ⟨#[]⟩, .int .i64 0, .int .i64 0]) 4 40 Tryd.underlying31 hi0 hz0 hz1 hz2 rfl (by decide) _ _ _ rfl (HS.out.row.alloc _) ⟨wr.heap.size, 0, none⟩ 1 1 [.int .i64 0, .string (s.extract p k), .int .i64 0, .int .i64 (p : Int)] rfl rfl (by have := World.ownsRow_lit (base := 0) (e := 41) (size := 4) wr #[.int .i64 0, .string (s.extract p k), .int .i64 0, .int .i64 (p : Int)] 1 (by omega) (by unfold maxLen; omega) rfl; exact this.cells (g := wr.heap.size) (by simp [Value.ownBlock])) (by intro u hu; simp only [List.mem_cons, List.not_mem_nil, or_false] at hu; rcases hu with rfl | rfl | rfl | rfl <;> rfl) (by unfold maxLen; have := HG.out; omega) (by have := HG.out; omega) (by have := HS.out.below.size; simp; omega) ?_; intro v8 w8 hown8 hg8 hnil8 hloc8))
                          have HN : Hid (ScI w s (us ++ [⟨0, ((bs s).drop p).take (k - p), 0, p⟩]) (k) v8 w8) := Lib.hid ⟨roww_snoc (by unfold cW; rw [ext8]; rfl) hown8, (bA8 HS.out.below HS.out.below.size _).grown hg8 (bA8 HS.out.below HS.out.below.size _).size (fun q e => (HS.out.row.lt q e).1), by have := HGO.out; rwa [show p + (k - p) = k from by omega] at this, by have := HG.out; have := HS.out.cnt; rw [List.length_append, List.length_singleton]; omega⟩
                          clear hown8 hg8 hnil8 hloc8
                          go_roundw
                          case rel => exact ⟨_, k, v8, rfl, (by first | rfl | (congr 1; omega)), by omega, HN⟩
                          case measure => simp [intOf]; omega
                  · obtain rfl : k = s.size := by omega
                    have hlf : ¬ ((s.size : Int) < (s.size : Int)) := by omega
                    have HE0 : Hid (∀ hk : s.size < s.size, isN (s[s.size]'hk) = false) := Lib.hid fun h => absurd h hkl
                    have hrs : IntKind.i64.wrap ((s.size : Int) - (p : Int)) = (s.size : Int) - (p : Int) := by rw [IntKind.wrap_i64] <;> omega
                    have hqk : (p : Int) ≤ (s.size : Int) := by omega
                    have hkz2 : (s.size : Int) ≤ (s.size : Int) := by omega
                    have hq00 : (0 : Int) ≤ (p : Int) := by omega
                    have HWK := Lib.hid (HWD.out s.size hpk hks HR.out HE0.out)
                    by_cases h16 : 16 < (s.size : Int) - (p : Int)
                    · have e1 : decide ((s.size : Int) - (p : Int) > 16) = true := decide_eq_true h16
                      have HE := Lib.hid (HS.out.go.err hlt hbig hBf H35.out (e := 9) (HWK.out.trans (if_pos (by omega))) (by decide))
                      go_wp2
                      exact bodyPost_ret (v := .tuple #[.slice none 0 0, .int .i64 (p : Int), .int .i64 9]) (by simp [results, Tryd.results10, go_sem]) rfl (scA_no HE.out HS.out.below)
                    · have e1 : decide ((s.size : Int) - (p : Int) > 16) = false := decide_eq_false h16
                      have e1'' : decide ((16 : Int) < (s.size : Int) - (p : Int)) = false := decide_eq_false h16
                      have HG := Lib.hid (show us.length + 1 ≤ 16384 from by have := HS.out.cnt; omega)
                      have HGO := Lib.hid (HS.out.go.word hlt (HWK.out.trans (if_neg (by omega))))
                      have hpk2 := HPQ.out s.size hpk HE0.out
                      go_wp2_with ((at_builtin; refine wpList_append_own_at _ rfl _ _ 31 rfl w.heap.size 41 i0 (.agg #[.int .i64 0, .string ⟨#[]⟩, .int .i64 0, .int .i64 0]) 4 40 Tryd.underlying31 hi0 hz0 hz1 hz2 rfl (by decide) _ _ _ rfl (HS.out.row.alloc _) ⟨wr.heap.size, 0, none⟩ 1 1 [.int .i64 0, .string (s.extract p s.size), .int .i64 0, .int .i64 (p : Int)] rfl rfl (by have := World.ownsRow_lit (base := 0) (e := 41) (size := 4) wr #[.int .i64 0, .string (s.extract p s.size), .int .i64 0, .int .i64 (p : Int)] 1 (by omega) (by unfold maxLen; omega) rfl; exact this.cells (g := wr.heap.size) (by simp [Value.ownBlock])) (by intro u hu; simp only [List.mem_cons, List.not_mem_nil, or_false] at hu; rcases hu with rfl | rfl | rfl | rfl <;> rfl) (by unfold maxLen; have := HG.out; omega) (by have := HG.out; omega) (by have := HS.out.below.size; simp; omega) ?_; intro v8 w8 hown8 hg8 hnil8 hloc8))
                      have HN : Hid (ScI w s (us ++ [⟨0, ((bs s).drop p).take (s.size - p), 0, p⟩]) (s.size) v8 w8) := Lib.hid ⟨roww_snoc (by unfold cW; rw [ext8]; rfl) hown8, (bA8 HS.out.below HS.out.below.size _).grown hg8 (bA8 HS.out.below HS.out.below.size _).size (fun q e => (HS.out.row.lt q e).1), by have := HGO.out; rwa [show p + (s.size - p) = s.size from by omega] at this, by have := HG.out; have := HS.out.cnt; rw [List.length_append, List.length_singleton]; omega⟩
                      clear hown8 hg8 hnil8 hloc8
                      go_roundw
                      case rel => exact ⟨_, s.size, v8, rfl, (by first | rfl | (congr 1; omega)), by omega, HN⟩
                      case measure => simp [intOf]; omega
            · have hLf : isL s[p] = false := by simpa using hL
              rw [hLf] at KL
              clear hL
              by_cases h39 : s[p].toNat = 39
              · as_aux_lemma =>
                  have e39 : (x == 39) = true := by rw [beq_iff_eq]; omega
                  have H35 := Lib.hid h35
                  obtain ⟨q, hq⟩ : ∃ q : Nat, q = p + 1 := ⟨_, rfl⟩
                  have hriq : IntKind.i64.wrap ((p : Int) + 1) = (q : Int) := by rw [hri, hq]
                  have hri2 := hri
                  clear hri
                  by_cases hqs : q < s.size
                  · have hqe : ((q : Int) == (s.size : Int)) = false := beq_eq_false_iff_ne.2 (by omega)
                    have hq0 : (0 : Int) ≤ (q : Int) := by omega
                    have hqz : (q : Int) < (s.size : Int) := by omega
                    obtain ⟨z, hz⟩ : ∃ z : Int, ((s[q].toNat : Nat) : Int) = z := ⟨_, rfl⟩
                    have KZ := Lib.hid (show ∀ w1, Calls Tryd.prog 14 #[.int .u8 z] w1 fun e w' => e = .returned (.bool (isL s[q])) ∧ w1 = w' from fun w1 => by rw [← hz]; exact letter8_c _ w1)
                    by_cases hLq : isL s[q] = true
                    · rw [hLq] at KZ
                      have HWD := Lib.hid (show ∀ k, q ≤ k → k ≤ s.size → Run isN s q k → (∀ hk : k < s.size, isN s[k] = false) → Tk.word ((bs s).drop p) = if 16 < k - q then (9, 0, [], 0, 0) else (0, 2, ((bs s).drop q).take (k - q), 0, k - p) from by
                        subst hq
                        exact fun k a b c d => word_Sk hqs h39 hLq a b c d)
                      have HPQ := Lib.hid (show ∀ k, q ≤ k → (∀ hk : k < s.size, isN s[k] = false) → p < k from fun k a _ => by omega)
                      clear hq
                      clear hLq h39 h35 hB hcs hri2
                      have HR0 : Hid (Run isN s q q) := Lib.hid (Run.nil isN s q)
                      go_wp2_with (first | (go_at_call 14; refine (KL.out _).mono ?_; rintro e w6 ⟨rfl, rfl⟩) | (go_at_call 15; refine (KD.out _).mono ?_; rintro e w6 ⟨rfl, rfl⟩) | (go_at_call 14; refine (KZ.out _).mono ?_; rintro e w6 ⟨rfl, rfl⟩))
                      go_loopw [6] (fun v wr2 => ∃ k : Nat, v = .int .i64 (k : Int) ∧ q ≤ k ∧ k ≤ s.size ∧ wr2 = wr ∧ Hid (Run isN s q k)) (fun v _ => s.size - (intOf v).toNat)
                      case atStart => exact ⟨q, rfl, Nat.le_refl _, by omega, rfl, HR0⟩
                      case round =>
                        clear HR0
                        obtain ⟨k, rfl, hpk, hks, rfl, HR⟩ := hrel
                        by_cases hkl : k < s.size
                        · have hk0 : (0 : Int) ≤ (k : Int) := by omega
                          have hkz : (k : Int) < (s.size : Int) := by omega
                          have hrk : IntKind.i64.wrap ((k : Int) + 1) = ((k + 1 : Nat) : Int) := by rw [IntKind.wrap_i64] <;> omega
                          obtain ⟨y, hy⟩ : ∃ y : Int, ((s[k].toNat : Nat) : Int) = y := ⟨_, rfl⟩
                          have KYL := Lib.hid (show ∀ w1, Calls Tryd.prog 14 #[.int .u8 y] w1 fun e w' => e = .returned (.bool (isL s[k])) ∧ w1 = w' from fun w1 => by rw [← hy]; exact letter8_c _ w1)
                          have KYD := Lib.hid (show ∀ w1, Calls Tryd.prog 15 #[.int .u8 y] w1 fun e w' => e = .returned (.bool (isD s[k])) ∧ w1 = w' from fun w1 => by rw [← hy]; exact digit8_c _ w1)
                          by_cases hLk : isL s[k] = true
                          · rw [hLk] at KYL
                            have HQ := Lib.hid (HR.out.next hkl (isN_L hLk))
                            clear hLk
                            go_wp2_with (first | (go_at_call 14; refine (KYL.out _).mono ?_; rintro e w6 ⟨rfl, rfl⟩) | (go_at_call 15; refine (KYD.out _).mono ?_; rintro e w6 ⟨rfl, rfl⟩))
                            go_roundw
                            case rel => exact ⟨k + 1, rfl, by omega, by omega, (by first | rfl | trivial), HQ⟩
                            case measure => simp [intOf]; omega
                          · have hLkf : isL s[k] = false := by simpa using hLk
                            rw [hLkf] at KYL
                            clear hLk
                            by_cases hDk : isD s[k] = true
                            · rw [hDk] at KYD
                              have HQ := Lib.hid (HR.out.next hkl (isN_D hDk))
                              clear hDk hLkf
                              go_wp2_with (first | (go_at_call 14; refine (KYL.out _).mono ?_; rintro e w6 ⟨rfl, rfl⟩) | (go_at_call 15; refine (KYD.out _).mono ?_; rintro e w6 ⟨rfl, rfl⟩))
                              go_roundw
                              case rel => exact ⟨k + 1, rfl, by omega, by omega, (by first | rfl | trivial), HQ⟩
                              case measure => simp [intOf]; omega
                            · have hDkf : isD s[k] = false := by simpa using hDk
                              rw [hDkf] at KYD
                              have HE0 : Hid (∀ hk : k < s.size, isN s[k] = false) := Lib.hid fun _ => isN_no hLkf hDkf
                              clear hDk hDkf hLkf
                              have hrs : IntKind.i64.wrap ((k : Int) - (q : Int)) = (k : Int) - (q : Int) := by rw [IntKind.wrap_i64] <;> omega
                              have hqk : (q : Int) ≤ (k : Int) := by omega
                              have hkz2 : (k : Int) ≤ (s.size : Int) := by omega
                              have hq00 : (0 : Int) ≤ (q : Int) := by omega
                              have HWK := Lib.hid (HWD.out k hpk hks HR.out HE0.out)
                              by_cases h16 : 16 < (k : Int) - (q : Int)
                              · have e1 : decide ((k : Int) - (q : Int) > 16) = true := decide_eq_true h16
                                have HE := Lib.hid (HS.out.go.err hlt hbig hBf H35.out (e := 9) (HWK.out.trans (if_pos (by omega))) (by decide))
                                go_wp2_with (first | (go_at_call 14; refine (KYL.out _).mono ?_; rintro e w6 ⟨rfl, rfl⟩) | (go_at_call 15; refine (KYD.out _).mono ?_; rintro e w6 ⟨rfl, rfl⟩))
                                exact bodyPost_ret (v := .tuple #[.slice none 0 0, .int .i64 (p : Int), .int .i64 9]) (by simp [results, Tryd.results10, go_sem]) rfl (scA_no HE.out HS.out.below)
                              · have e1 : decide ((k : Int) - (q : Int) > 16) = false := decide_eq_false h16
                                have e1'' : decide ((16 : Int) < (k : Int) - (q : Int)) = false := decide_eq_false h16
                                have HG := Lib.hid (show us.length + 1 ≤ 16384 from by have := HS.out.cnt; omega)
                                have HGO := Lib.hid (HS.out.go.word hlt (HWK.out.trans (if_neg (by omega))))
                                have hpk2 := HPQ.out k hpk HE0.out
                                go_wp2_with (first | (go_at_call 14; refine (KYL.out _).mono ?_; rintro e w6 ⟨rfl, rfl⟩) | (go_at_call 15; refine (KYD.out _).mono ?_; rintro e w6 ⟨rfl, rfl⟩) | (at_builtin; refine wpList_append_own_at _ rfl _ _ 31 rfl w.heap.size 41 i0 (.agg #[.int .i64 0, .string ⟨#[]⟩, .int .i64 0, .int .i64 0]) 4 40 Tryd.underlying31 hi0 hz0 hz1 hz2 rfl (by decide) _ _ _ rfl (HS.out.row.alloc _) ⟨wr.heap.size, 0, none⟩ 1 1 [.int .i64 2, .string (s.extract q k), .int .i64 0, .int .i64 (p : Int)] rfl rfl (by have := World.ownsRow_lit (base := 0) (e := 41) (size := 4) wr #[.int .i64 2, .string (s.extract q k), .int .i64 0, .int .i64 (p : Int)] 1 (by omega) (by unfold maxLen; omega) rfl; exact this.cells (g := wr.heap.size) (by simp [Value.ownBlock])) (by intro u hu; simp only [List.mem_cons, List.not_mem_nil, or_false] at hu; rcases hu with rfl | rfl | rfl | rfl <;> rfl) (by unfold maxLen; have := HG.out; omega) (by have := HG.out; omega) (by have := HS.out.below.size; simp; omega) ?_; intro v8 w8 hown8 hg8 hnil8 hloc8))
                                have HN : Hid (ScI w s (us ++ [⟨2, ((bs s).drop q).take (k - q), 0, p⟩]) (k) v8 w8) := Lib.hid ⟨roww_snoc (by unfold cW; rw [ext8]; rfl) hown8, (bA8 HS.out.below HS.out.below.size _).grown hg8 (bA8 HS.out.below HS.out.below.size _).size (fun q e => (HS.out.row.lt q e).1), by have := HGO.out; rwa [show p + (k - p) = k from by omega] at this, by have := HG.out; have := HS.out.cnt; rw [List.length_append, List.length_singleton]; omega⟩
                                clear hown8 hg8 hnil8 hloc8
                                go_roundw
                                case rel => exact ⟨_, k, v8, rfl, (by first | rfl | (congr 1; omega)), by omega, HN⟩
                                case measure => simp [intOf]; omega
                        · obtain rfl : k = s.size := by omega
                          have hlf : ¬ ((s.size : Int) < (s.size : Int)) := by omega
                          have HE0 : Hid (∀ hk : s.size < s.size, isN (s[s.size]'hk) = false) := Lib.hid fun h => absurd h hkl
                          have hrs : IntKind.i64.wrap ((s.size : Int) - (q : Int)) = (s.size : Int) - (q : Int) := by rw [IntKind.wrap_i64] <;> omega
                          have hqk : (q : Int) ≤ (s.size : Int) := by omega
                          have hkz2 : (s.size : Int) ≤ (s.size : Int) := by omega
                          have hq00 : (0 : Int) ≤ (q : Int) := by omega
                          have HWK := Lib.hid (HWD.out s.size hpk hks HR.out HE0.out)
                          by_cases h16 : 16 < (s.size : Int) - (q : Int)
                          · have e1 : decide ((s.size : Int) - (q : Int) > 16) = true := decide_eq_true h16
                            have HE := Lib.hid (HS.out.go.err hlt hbig hBf H35.out (e := 9) (HWK.out.trans (if_pos (by omega))) (by decide))
                            go_wp2
                            exact bodyPost_ret (v := .tuple #[.slice none 0 0, .int .i64 (p : Int), .int .i64 9]) (by simp [results, Tryd.results10, go_sem]) rfl (scA_no HE.out HS.out.below)
                          · have e1 : decide ((s.size : Int) - (q : Int) > 16) = false := decide_eq_false h16
                            have e1'' : decide ((16 : Int) < (s.size : Int) - (q : Int)) = false := decide_eq_false h16
                            have HG := Lib.hid (show us.length + 1 ≤ 16384 from by have := HS.out.cnt; omega)
                            have HGO := Lib.hid (HS.out.go.word hlt (HWK.out.trans (if_neg (by omega))))
                            have hpk2 := HPQ.out s.size hpk HE0.out
                            go_wp2_with ((at_builtin; refine wpList_append_own_at _ rfl _ _ 31 rfl w.heap.size 41 i0 (.agg #[.int .i64 0, .string ⟨#[]⟩, .int .i64 0, .int .i64 0]) 4 40 Tryd.underlying31 hi0 hz0 hz1 hz2 rfl (by decide) _ _ _ rfl (HS.out.row.alloc _) ⟨wr.heap.size, 0, none⟩ 1 1 [.int .i64 2, .string (s.extract q s.size), .int .i64 0, .int .i64 (p : Int)] rfl rfl (by have := World.ownsRow_lit (base := 0) (e := 41) (size := 4) wr #[.int .i64 2, .string (s.extract q s.size), .int .i64 0, .int .i64 (p : Int)] 1 (by omega) (by unfold maxLen; omega) rfl; exact this.cells (g := wr.heap.size) (by simp [Value.ownBlock])) (by intro u hu; simp only [List.mem_cons, List.not_mem_nil, or_false] at hu; rcases hu with rfl | rfl | rfl | rfl <;> rfl) (by unfold maxLen; have := HG.out; omega) (by have := HG.out; omega) (by have := HS.out.below.size; simp; omega) ?_; intro v8 w8 hown8 hg8 hnil8 hloc8))
                            have HN : Hid (ScI w s (us ++ [⟨2, ((bs s).drop q).take (s.size - q), 0, p⟩]) (s.size) v8 w8) := Lib.hid ⟨roww_snoc (by unfold cW; rw [ext8]; rfl) hown8, (bA8 HS.out.below HS.out.below.size _).grown hg8 (bA8 HS.out.below HS.out.below.size _).size (fun q e => (HS.out.row.lt q e).1), by have := HGO.out; rwa [show p + (s.size - p) = s.size from by omega] at this, by have := HG.out; have := HS.out.cnt; rw [List.length_append, List.length_singleton]; omega⟩
                            clear hown8 hg8 hnil8 hloc8
                            go_roundw
                            case rel => exact ⟨_, s.size, v8, rfl, (by first | rfl | (congr 1; omega)), by omega, HN⟩
                            case measure => simp [intOf]; omega
                    · have hLqf : isL s[q] = false := by simpa using hLq
                      rw [hLqf] at KZ
                      have HE := Lib.hid (HS.out.go.err hlt hbig hBf H35.out (e := 5) (word_S0 hlt h39 (by subst hq; exact fun _ => hLqf)) (by decide))
                      clear hq
                      clear hLq hLqf h39 h35 hB hcs hri2
                      go_wp2_with (first | (go_at_call 14; refine (KL.out _).mono ?_; rintro e w6 ⟨rfl, rfl⟩) | (go_at_call 15; refine (KD.out _).mono ?_; rintro e w6 ⟨rfl, rfl⟩) | (go_at_call 14; refine (KZ.out _).mono ?_; rintro e w6 ⟨rfl, rfl⟩))
                      exact bodyPost_ret (v := .tuple #[.slice none 0 0, .int .i64 (p : Int), .int .i64 5]) (by simp [results, Tryd.results10, go_sem]) rfl (scA_no HE.out HS.out.below)
                  · have hqe : ((q : Int) == (s.size : Int)) = true := by rw [beq_iff_eq]; omega
                    have HE := Lib.hid (HS.out.go.err hlt hbig hBf H35.out (e := 5) (word_S0 hlt h39 (fun h => by omega)) (by decide))
                    clear hq
                    clear h39 h35 hB hcs hri2
                    go_wp2_with (first | (go_at_call 14; refine (KL.out _).mono ?_; rintro e w6 ⟨rfl, rfl⟩) | (go_at_call 15; refine (KD.out _).mono ?_; rintro e w6 ⟨rfl, rfl⟩))
                    exact bodyPost_ret (v := .tuple #[.slice none 0 0, .int .i64 (p : Int), .int .i64 5]) (by simp [results, Tryd.results10, go_sem]) rfl (scA_no HE.out HS.out.below)
              · have e39 : (x == 39) = false := beq_eq_false_iff_ne.2 (by omega)
                by_cases hD : isD s[p] = true
                · as_aux_lemma =>
                    rw [hD] at KD
                    have HD := Lib.hid hD
                    have H39 := Lib.hid h39
                    have H35 := Lib.hid h35
                    have HN0 : Hid (NumI s p p 0 false) := Lib.hid (NumI.start s p)
                    clear hD h39 h35 hB hcs
                    go_wp2_with (first | (go_at_call 14; refine (KL.out _).mono ?_; rintro e w6 ⟨rfl, rfl⟩) | (go_at_call 15; refine (KD.out _).mono ?_; rintro e w6 ⟨rfl, rfl⟩))
                    go_loopw [6, 11, 12, 13] (fun v6 v11 v12 _ wr2 => ∃ (k : Nat) (n : Int) (o : Bool), v6 = .int .i64 (k : Int) ∧ v11 = .int .i64 n ∧ v12 = .bool o ∧ p ≤ k ∧ k ≤ s.size ∧ wr2 = wr ∧ Hid (NumI s p k n o)) (fun v6 _ _ _ _ => s.size - (intOf v6).toNat)
                    case atStart => exact ⟨p, 0, false, rfl, rfl, rfl, Nat.le_refl _, hp, rfl, HN0⟩
                    case round =>
                      clear HN0
                      obtain ⟨k, n, o, rfl, rfl, rfl, hpk, hks, rfl, HN0⟩ := hrel
                      by_cases hkl : k < s.size
                      · have hk0 : (0 : Int) ≤ (k : Int) := by omega
                        have hkz : (k : Int) < (s.size : Int) := by omega
                        have hrk : IntKind.i64.wrap ((k : Int) + 1) = ((k + 1 : Nat) : Int) := by rw [IntKind.wrap_i64] <;> omega
                        obtain ⟨y, hy⟩ : ∃ y : Int, ((s[k].toNat : Nat) : Int) = y := ⟨_, rfl⟩
                        have KY := Lib.hid (show ∀ w1, Calls Tryd.prog 15 #[.int .u8 y] w1 fun e w' => e = .returned (.bool (isD s[k])) ∧ w1 = w' from fun w1 => by rw [← hy]; exact digit8_c _ w1)
                        by_cases hDk : isD s[k] = true
                        · rw [hDk] at KY
                          have hdd : 48 ≤ s[k].toNat ∧ s[k].toNat ≤ 57 := of_decide_eq_true (show decide (48 ≤ s[k].toNat ∧ s[k].toNat ≤ 57) = true from hDk)
                          obtain ⟨d, hd⟩ : ∃ d : Int, y - 48 = d := ⟨_, rfl⟩
                          have hwd : IntKind.u8.wrap (y - 48) = d := by rw [IntKind.wrap_u8] <;> omega
                          have hwd2 : IntKind.i64.wrap d = d := by rw [IntKind.wrap_i64] <;> omega
                          by_cases hA : 922337203685477580 < n
                          · have HQ := Lib.hid (HN0.out.over hpk hkl hDk (.inl hA))
                            have hA1 : decide (n > 922337203685477580) = true := decide_eq_true hA
                            clear HN0 hdd hd
                            go_wp2_with (go_at_call 15; refine (KY.out _).mono ?_; rintro e w6 ⟨rfl, rfl⟩)
                            go_roundw
                            case rel => exact ⟨k + 1, n, true, rfl, rfl, rfl, by omega, by omega, (by first | rfl | trivial), HQ⟩
                            case measure => simp [intOf]; omega
                          · have hA1 : decide (n > 922337203685477580) = false := decide_eq_false hA
                            by_cases hE : n = 922337203685477580
                            · have eE : (n == 922337203685477580) = true := by rw [beq_iff_eq]; exact hE
                              by_cases h7 : 7 < d
                              · have HQ := Lib.hid (HN0.out.over hpk hkl hDk (.inr ⟨hE, by omega⟩))
                                have h71 : decide (d > 7) = true := decide_eq_true h7
                                clear HN0 hdd hd hA hE
                                go_wp2_with (go_at_call 15; refine (KY.out _).mono ?_; rintro e w6 ⟨rfl, rfl⟩)
                                go_roundw
                                case rel => exact ⟨k + 1, n, true, rfl, rfl, rfl, by omega, by omega, (by first | rfl | trivial), HQ⟩
                                case measure => simp [intOf]; omega
                              · have HQ := Lib.hid (HN0.out.more hpk hkl hDk (by omega))
                                have h71 : decide (d > 7) = false := decide_eq_false h7
                                have hw10 : IntKind.i64.wrap (n * 10) = n * 10 := by have := HN0.out.2.1; rw [IntKind.wrap_i64] <;> omega
                                have hwa : IntKind.i64.wrap (n * 10 + d) = n * 10 + d := by have := HN0.out.2.1; rw [IntKind.wrap_i64] <;> omega
                                rw [hy, hd] at HQ
                                clear HN0 hdd hd hA hE
                                go_wp2_with (go_at_call 15; refine (KY.out _).mono ?_; rintro e w6 ⟨rfl, rfl⟩)
                                go_roundw
                                case rel => exact ⟨k + 1, _, o, rfl, rfl, rfl, by omega, by omega, (by first | rfl | trivial), HQ⟩
                                case measure => simp [intOf]; omega
                            · have eE : (n == 922337203685477580) = false := beq_eq_false_iff_ne.2 hE
                              have HQ := Lib.hid (HN0.out.more hpk hkl hDk (by omega))
                              have hw10 : IntKind.i64.wrap (n * 10) = n * 10 := by have := HN0.out.2.1; rw [IntKind.wrap_i64] <;> omega
                              have hwa : IntKind.i64.wrap (n * 10 + d) = n * 10 + d := by have := HN0.out.2.1; rw [IntKind.wrap_i64] <;> omega
                              rw [hy, hd] at HQ
                              clear HN0 hdd hd hA hE
                              go_wp2_with (go_at_call 15; refine (KY.out _).mono ?_; rintro e w6 ⟨rfl, rfl⟩)
                              go_roundw
                              case rel => exact ⟨k + 1, _, o, rfl, rfl, rfl, by omega, by omega, (by first | rfl | trivial), HQ⟩
                              case measure => simp [intOf]; omega
                        · have hDf : isD s[k] = false := by simpa using hDk
                          rw [hDf] at KY
                          have HE0 : Hid (∀ hk : k < s.size, isD s[k] = false) := Lib.hid fun _ => hDf
                          clear hDk hDf
                          have HWK := Lib.hid (word_Dk hlt hLf H39.out HD.out hpk hks HN0.out.1 HE0.out)
                          have hrs : IntKind.i64.wrap ((k : Int) - (p : Int)) = (k : Int) - (p : Int) := by rw [IntKind.wrap_i64] <;> omega
                          have hpos : p < k := by
                            rcases Nat.lt_or_ge p k with h | h
                            · exact h
                            · exfalso
                              have h0 : p = k := by omega
                              subst h0
                              have := HE0.out hlt
                              rw [HD.out] at this
                              exact absurd this (by decide)
                          by_cases h48 : x = 48 ∧ 1 < (k : Int) - (p : Int)
                          · have e48 : (x == 48) = true := by rw [beq_iff_eq]; exact h48.1
                            have e1 : decide ((k : Int) - (p : Int) > 1) = true := decide_eq_true h48.2
                            have e1' : (1 : Int) < (k : Int) - (p : Int) := h48.2
                            have HE := Lib.hid (HS.out.go.err hlt hbig hBf H35.out (e := 6) (HWK.out.trans (if_pos ⟨by have := h48.1; have := HX.out; omega, by omega⟩)) (by decide))
                            clear h48 HN0
                            go_wp2_with ((go_at_call 15; refine (KY.out _).mono ?_; rintro e w6 ⟨rfl, rfl⟩))
                            exact bodyPost_ret (v := .tuple #[.slice none 0 0, .int .i64 (p : Int), .int .i64 6]) (by simp [results, Tryd.results10, go_sem]) rfl (scA_no HE.out HS.out.below)
                          · have hw48 := Lib.hid (HWK.out.trans (if_neg (fun h => h48 ⟨by have := h.1; have := HX.out; omega, by omega⟩)))
                            cases o with
                            | true =>
                              have HE := Lib.hid (HS.out.go.err hlt hbig hBf H35.out (e := 2) (hw48.out.trans (if_pos (HN0.out.2.2.2.1 rfl))) (by decide))
                              clear HN0
                              by_cases h8 : x = 48
                              · have e48 : (x == 48) = true := by rw [beq_iff_eq]; exact h8
                                have e1 : decide ((k : Int) - (p : Int) > 1) = false := decide_eq_false (by omega)
                                have e1' : ¬ (1 : Int) < (k : Int) - (p : Int) := by omega
                                have e1'' : decide ((1 : Int) < (k : Int) - (p : Int)) = false := decide_eq_false (by omega)
                                clear h48 h8
                                go_wp2_with ((go_at_call 15; refine (KY.out _).mono ?_; rintro e w6 ⟨rfl, rfl⟩))
                                exact bodyPost_ret (v := .tuple #[.slice none 0 0, .int .i64 (p : Int), .int .i64 2]) (by simp [results, Tryd.results10, go_sem]) rfl (scA_no HE.out HS.out.below)
                              · have e48 : (x == 48) = false := beq_eq_false_iff_ne.2 h8
                                clear h48 h8
                                go_wp2_with ((go_at_call 15; refine (KY.out _).mono ?_; rintro e w6 ⟨rfl, rfl⟩))
                                exact bodyPost_ret (v := .tuple #[.slice none 0 0, .int .i64 (p : Int), .int .i64 2]) (by simp [results, Tryd.results10, go_sem]) rfl (scA_no HE.out HS.out.below)
                            | false =>
                              obtain ⟨m, hm⟩ : ∃ m : Nat, numV (((bs s).drop p).take (k - p)) = m := ⟨_, rfl⟩
                              have hmn : (m : Int) = n := by have := HN0.out.2.2.2.2 rfl; omega
                              have hmx : m ≤ 9223372036854775807 := by have := HN0.out.2.2.1; omega
                              have HWW := hw48.out.trans (if_neg (show ¬ 9223372036854775807 < numV (((bs s).drop p).take (k - p)) from by omega))
                              rw [hm] at HWW
                              obtain rfl := hmn
                              have HG := Lib.hid (show us.length + 1 ≤ 16384 from by have := HS.out.cnt; omega)
                              have HGO := Lib.hid (HS.out.go.word hlt HWW)
                              clear HN0 hm hmx HWW
                              by_cases h8 : x = 48
                              · have e48 : (x == 48) = true := by rw [beq_iff_eq]; exact h8
                                have e1 : decide ((k : Int) - (p : Int) > 1) = false := decide_eq_false (by omega)
                                have e1' : ¬ (1 : Int) < (k : Int) - (p : Int) := by omega
                                have e1'' : decide ((1 : Int) < (k : Int) - (p : Int)) = false := decide_eq_false (by omega)
                                clear h48 h8
                                go_wp2_with (first | (go_at_call 15; refine (KY.out _).mono ?_; rintro e w6 ⟨rfl, rfl⟩) | (at_builtin; refine wpList_append_own_at _ rfl _ _ 31 rfl w.heap.size 41 i0 (.agg #[.int .i64 0, .string ⟨#[]⟩, .int .i64 0, .int .i64 0]) 4 40 Tryd.underlying31 hi0 hz0 hz1 hz2 rfl (by decide) _ _ _ rfl (HS.out.row.alloc _) ⟨wr.heap.size, 0, none⟩ 1 1 [.int .i64 1, .string ⟨#[]⟩, .int .i64 (m : Int), .int .i64 (p : Int)] rfl rfl (by have := World.ownsRow_lit (base := 0) (e := 41) (size := 4) wr #[.int .i64 1, .string ⟨#[]⟩, .int .i64 (m : Int), .int .i64 (p : Int)] 1 (by omega) (by unfold maxLen; omega) rfl; exact this.cells (g := wr.heap.size) (by simp [Value.ownBlock])) (by intro u hu; simp only [List.mem_cons, List.not_mem_nil, or_false] at hu; rcases hu with rfl | rfl | rfl | rfl <;> rfl) (by unfold maxLen; have := HG.out; omega) (by have := HG.out; omega) (by have := HS.out.below.size; simp; omega) ?_; intro v8 w8 hown8 hg8 hnil8 hloc8))
                                have HN : Hid (ScI w s (us ++ [⟨1, [], m, p⟩]) (k) v8 w8) := Lib.hid ⟨roww_snoc (by unfold cW; rfl) hown8, (bA8 HS.out.below HS.out.below.size _).grown hg8 (bA8 HS.out.below HS.out.below.size _).size (fun q e => (HS.out.row.lt q e).1), by have := HGO.out; rwa [show p + (k - p) = k from by omega] at this, by have := HG.out; have := HS.out.cnt; rw [List.length_append, List.length_singleton]; omega⟩
                                clear hown8 hg8 hnil8 hloc8
                                go_roundw
                                case rel => exact ⟨_, k, v8, rfl, (by first | rfl | (congr 1; omega)), by omega, HN⟩
                                case measure => simp [intOf]; omega
                              · have e48 : (x == 48) = false := beq_eq_false_iff_ne.2 h8
                                clear h48 h8
                                go_wp2_with (first | (go_at_call 15; refine (KY.out _).mono ?_; rintro e w6 ⟨rfl, rfl⟩) | (at_builtin; refine wpList_append_own_at _ rfl _ _ 31 rfl w.heap.size 41 i0 (.agg #[.int .i64 0, .string ⟨#[]⟩, .int .i64 0, .int .i64 0]) 4 40 Tryd.underlying31 hi0 hz0 hz1 hz2 rfl (by decide) _ _ _ rfl (HS.out.row.alloc _) ⟨wr.heap.size, 0, none⟩ 1 1 [.int .i64 1, .string ⟨#[]⟩, .int .i64 (m : Int), .int .i64 (p : Int)] rfl rfl (by have := World.ownsRow_lit (base := 0) (e := 41) (size := 4) wr #[.int .i64 1, .string ⟨#[]⟩, .int .i64 (m : Int), .int .i64 (p : Int)] 1 (by omega) (by unfold maxLen; omega) rfl; exact this.cells (g := wr.heap.size) (by simp [Value.ownBlock])) (by intro u hu; simp only [List.mem_cons, List.not_mem_nil, or_false] at hu; rcases hu with rfl | rfl | rfl | rfl <;> rfl) (by unfold maxLen; have := HG.out; omega) (by have := HG.out; omega) (by have := HS.out.below.size; simp; omega) ?_; intro v8 w8 hown8 hg8 hnil8 hloc8))
                                have HN : Hid (ScI w s (us ++ [⟨1, [], m, p⟩]) (k) v8 w8) := Lib.hid ⟨roww_snoc (by unfold cW; rfl) hown8, (bA8 HS.out.below HS.out.below.size _).grown hg8 (bA8 HS.out.below HS.out.below.size _).size (fun q e => (HS.out.row.lt q e).1), by have := HGO.out; rwa [show p + (k - p) = k from by omega] at this, by have := HG.out; have := HS.out.cnt; rw [List.length_append, List.length_singleton]; omega⟩
                                clear hown8 hg8 hnil8 hloc8
                                go_roundw
                                case rel => exact ⟨_, k, v8, rfl, (by first | rfl | (congr 1; omega)), by omega, HN⟩
                                case measure => simp [intOf]; omega
                      · obtain rfl : k = s.size := by omega
                        have hlf : ¬ ((s.size : Int) < (s.size : Int)) := by omega
                        have HE0 : Hid (∀ hk : s.size < s.size, isD (s[s.size]'hk) = false) := Lib.hid fun h => absurd h hkl
                        have HWK := Lib.hid (word_Dk hlt hLf H39.out HD.out hpk hks HN0.out.1 HE0.out)
                        have hrs : IntKind.i64.wrap ((s.size : Int) - (p : Int)) = (s.size : Int) - (p : Int) := by rw [IntKind.wrap_i64] <;> omega
                        have hpos : p < s.size := by
                          rcases Nat.lt_or_ge p s.size with h | h
                          · exact h
                          · exfalso
                            have h0 : p = s.size := by omega
                            subst h0
                            have := HE0.out hlt
                            rw [HD.out] at this
                            exact absurd this (by decide)
                        by_cases h48 : x = 48 ∧ 1 < (s.size : Int) - (p : Int)
                        · have e48 : (x == 48) = true := by rw [beq_iff_eq]; exact h48.1
                          have e1 : decide ((s.size : Int) - (p : Int) > 1) = true := decide_eq_true h48.2
                          have e1' : (1 : Int) < (s.size : Int) - (p : Int) := h48.2
                          have HE := Lib.hid (HS.out.go.err hlt hbig hBf H35.out (e := 6) (HWK.out.trans (if_pos ⟨by have := h48.1; have := HX.out; omega, by omega⟩)) (by decide))
                          clear h48 HN0
                          go_wp2
                          exact bodyPost_ret (v := .tuple #[.slice none 0 0, .int .i64 (p : Int), .int .i64 6]) (by simp [results, Tryd.results10, go_sem]) rfl (scA_no HE.out HS.out.below)
                        · have hw48 := Lib.hid (HWK.out.trans (if_neg (fun h => h48 ⟨by have := h.1; have := HX.out; omega, by omega⟩)))
                          cases o with
                          | true =>
                            have HE := Lib.hid (HS.out.go.err hlt hbig hBf H35.out (e := 2) (hw48.out.trans (if_pos (HN0.out.2.2.2.1 rfl))) (by decide))
                            clear HN0
                            by_cases h8 : x = 48
                            · have e48 : (x == 48) = true := by rw [beq_iff_eq]; exact h8
                              have e1 : decide ((s.size : Int) - (p : Int) > 1) = false := decide_eq_false (by omega)
                              have e1' : ¬ (1 : Int) < (s.size : Int) - (p : Int) := by omega
                              have e1'' : decide ((1 : Int) < (s.size : Int) - (p : Int)) = false := decide_eq_false (by omega)
                              clear h48 h8
                              go_wp2
                              exact bodyPost_ret (v := .tuple #[.slice none 0 0, .int .i64 (p : Int), .int .i64 2]) (by simp [results, Tryd.results10, go_sem]) rfl (scA_no HE.out HS.out.below)
                            · have e48 : (x == 48) = false := beq_eq_false_iff_ne.2 h8
                              clear h48 h8
                              go_wp2
                              exact bodyPost_ret (v := .tuple #[.slice none 0 0, .int .i64 (p : Int), .int .i64 2]) (by simp [results, Tryd.results10, go_sem]) rfl (scA_no HE.out HS.out.below)
                          | false =>
                            obtain ⟨m, hm⟩ : ∃ m : Nat, numV (((bs s).drop p).take (s.size - p)) = m := ⟨_, rfl⟩
                            have hmn : (m : Int) = n := by have := HN0.out.2.2.2.2 rfl; omega
                            have hmx : m ≤ 9223372036854775807 := by have := HN0.out.2.2.1; omega
                            have HWW := hw48.out.trans (if_neg (show ¬ 9223372036854775807 < numV (((bs s).drop p).take (s.size - p)) from by omega))
                            rw [hm] at HWW
                            obtain rfl := hmn
                            have HG := Lib.hid (show us.length + 1 ≤ 16384 from by have := HS.out.cnt; omega)
                            have HGO := Lib.hid (HS.out.go.word hlt HWW)
                            clear HN0 hm hmx HWW
                            by_cases h8 : x = 48
                            · have e48 : (x == 48) = true := by rw [beq_iff_eq]; exact h8
                              have e1 : decide ((s.size : Int) - (p : Int) > 1) = false := decide_eq_false (by omega)
                              have e1' : ¬ (1 : Int) < (s.size : Int) - (p : Int) := by omega
                              have e1'' : decide ((1 : Int) < (s.size : Int) - (p : Int)) = false := decide_eq_false (by omega)
                              clear h48 h8
                              go_wp2_with ((at_builtin; refine wpList_append_own_at _ rfl _ _ 31 rfl w.heap.size 41 i0 (.agg #[.int .i64 0, .string ⟨#[]⟩, .int .i64 0, .int .i64 0]) 4 40 Tryd.underlying31 hi0 hz0 hz1 hz2 rfl (by decide) _ _ _ rfl (HS.out.row.alloc _) ⟨wr.heap.size, 0, none⟩ 1 1 [.int .i64 1, .string ⟨#[]⟩, .int .i64 (m : Int), .int .i64 (p : Int)] rfl rfl (by have := World.ownsRow_lit (base := 0) (e := 41) (size := 4) wr #[.int .i64 1, .string ⟨#[]⟩, .int .i64 (m : Int), .int .i64 (p : Int)] 1 (by omega) (by unfold maxLen; omega) rfl; exact this.cells (g := wr.heap.size) (by simp [Value.ownBlock])) (by intro u hu; simp only [List.mem_cons, List.not_mem_nil, or_false] at hu; rcases hu with rfl | rfl | rfl | rfl <;> rfl) (by unfold maxLen; have := HG.out; omega) (by have := HG.out; omega) (by have := HS.out.below.size; simp; omega) ?_; intro v8 w8 hown8 hg8 hnil8 hloc8))
                              have HN : Hid (ScI w s (us ++ [⟨1, [], m, p⟩]) (s.size) v8 w8) := Lib.hid ⟨roww_snoc (by unfold cW; rfl) hown8, (bA8 HS.out.below HS.out.below.size _).grown hg8 (bA8 HS.out.below HS.out.below.size _).size (fun q e => (HS.out.row.lt q e).1), by have := HGO.out; rwa [show p + (s.size - p) = s.size from by omega] at this, by have := HG.out; have := HS.out.cnt; rw [List.length_append, List.length_singleton]; omega⟩
                              clear hown8 hg8 hnil8 hloc8
                              go_roundw
                              case rel => exact ⟨_, s.size, v8, rfl, (by first | rfl | (congr 1; omega)), by omega, HN⟩
                              case measure => simp [intOf]; omega
                            · have e48 : (x == 48) = false := beq_eq_false_iff_ne.2 h8
                              clear h48 h8
                              go_wp2_with ((at_builtin; refine wpList_append_own_at _ rfl _ _ 31 rfl w.heap.size 41 i0 (.agg #[.int .i64 0, .string ⟨#[]⟩, .int .i64 0, .int .i64 0]) 4 40 Tryd.underlying31 hi0 hz0 hz1 hz2 rfl (by decide) _ _ _ rfl (HS.out.row.alloc _) ⟨wr.heap.size, 0, none⟩ 1 1 [.int .i64 1, .string ⟨#[]⟩, .int .i64 (m : Int), .int .i64 (p : Int)] rfl rfl (by have := World.ownsRow_lit (base := 0) (e := 41) (size := 4) wr #[.int .i64 1, .string ⟨#[]⟩, .int .i64 (m : Int), .int .i64 (p : Int)] 1 (by omega) (by unfold maxLen; omega) rfl; exact this.cells (g := wr.heap.size) (by simp [Value.ownBlock])) (by intro u hu; simp only [List.mem_cons, List.not_mem_nil, or_false] at hu; rcases hu with rfl | rfl | rfl | rfl <;> rfl) (by unfold maxLen; have := HG.out; omega) (by have := HG.out; omega) (by have := HS.out.below.size; simp; omega) ?_; intro v8 w8 hown8 hg8 hnil8 hloc8))
                              have HN : Hid (ScI w s (us ++ [⟨1, [], m, p⟩]) (s.size) v8 w8) := Lib.hid ⟨roww_snoc (by unfold cW; rfl) hown8, (bA8 HS.out.below HS.out.below.size _).grown hg8 (bA8 HS.out.below HS.out.below.size _).size (fun q e => (HS.out.row.lt q e).1), by have := HGO.out; rwa [show p + (s.size - p) = s.size from by omega] at this, by have := HG.out; have := HS.out.cnt; rw [List.length_append, List.length_singleton]; omega⟩
                              clear hown8 hg8 hnil8 hloc8
                              go_roundw
                              case rel => exact ⟨_, s.size, v8, rfl, (by first | rfl | (congr 1; omega)), by omega, HN⟩
                              case measure => simp [intOf]; omega
                · have hDf : isD s[p] = false := by simpa using hD
                  rw [hDf] at KD
                  clear hD
                  as_aux_lemma =>
                    have HM := Lib.hid (show Tk.word ((bs s).drop p) = if markLen ((bs s).drop p) = 0 then (5, 0, [], 0, 0) else (0, 3, ((bs s).drop p).take (markLen ((bs s).drop p)), 0, markLen ((bs s).drop p)) from by rw [hcs]; exact word_M hLf h39 hDf)
                    have KM := Lib.hid (fun w1 => mark8_c s p hlt (by omega) w1)
                    have hml := mark_le ((bs s).drop p)
                    have hml3 : ((bs s).drop p).length = s.size - p := by rw [List.length_drop, bs_len]
                    have hme := ext8 s p (p + markLen ((bs s).drop p))
                    generalize markLen ((bs s).drop p) = m at *
                    by_cases hm0 : m = 0
                    · obtain rfl := hm0
                      have HE := Lib.hid (HS.out.go.err hlt hbig hBf h35 (e := 5) (HM.out.trans (if_pos rfl)) (by decide))
                      clear hB hBf h35 h39 hLf hDf hcs hml hml3 hme
                      go_wp2_with (first | (go_at_call 14; refine (KL.out _).mono ?_; rintro e w6 ⟨rfl, rfl⟩) | (go_at_call 15; refine (KD.out _).mono ?_; rintro e w6 ⟨rfl, rfl⟩) | (go_at_call 16; refine (KM.out _).mono ?_; rintro e w7 ⟨rfl, hb7⟩))
                      exact bodyPost_ret (v := .tuple #[.slice none 0 0, .int .i64 (p : Int), .int .i64 5]) (by simp [results, Tryd.results10, go_sem]) rfl (scA_no HE.out (belowT8 HS.out.below hb7))
                    · have hm0i : ((m : Int) == 0) = false := beq_eq_false_iff_ne.2 (by omega)
                      have hrm : IntKind.i64.wrap ((p : Int) + (m : Int)) = (p : Int) + (m : Int) := by rw [IntKind.wrap_i64] <;> omega
                      have hpm : p + m ≤ s.size := by omega
                      have hpmz : ((p + m : Nat) : Int) ≤ (s.size : Int) := by omega
                      have hp00 : (0 : Int) ≤ (p : Int) := by omega
                      have hppm : (p : Int) ≤ ((p + m : Nat) : Int) := by omega
                      have HW := Lib.hid (HM.out.trans (if_neg hm0))
                      have HME := Lib.hid hme
                      have HG := Lib.hid (show us.length + 1 ≤ 16384 ∧ 0 < m from by have := HS.out.cnt; omega)
                      clear hB hBf h35 h39 hLf hDf hcs hml hml3 hme
                      go_wp2_with (first | (go_at_call 14; refine (KL.out _).mono ?_; rintro e w6 ⟨rfl, rfl⟩) | (go_at_call 15; refine (KD.out _).mono ?_; rintro e w6 ⟨rfl, rfl⟩) | (go_at_call 16; refine (KM.out _).mono ?_; rintro e w7 ⟨rfl, hb7⟩; have HS7 := Lib.hid (HS.out.moved hb7)) | (at_builtin; refine wpList_append_own_at _ rfl _ _ 31 rfl w.heap.size 41 i0 (.agg #[.int .i64 0, .string ⟨#[]⟩, .int .i64 0, .int .i64 0]) 4 40 Tryd.underlying31 hi0 hz0 hz1 hz2 rfl (by decide) _ _ _ rfl (HS7.out.row.alloc _) ⟨w7.heap.size, 0, none⟩ 1 1 [.int .i64 3, .string (s.extract p (p + m)), .int .i64 0, .int .i64 (p : Int)] rfl rfl (by have := World.ownsRow_lit (base := 0) (e := 41) (size := 4) w7 #[.int .i64 3, .string (s.extract p (p + m)), .int .i64 0, .int .i64 (p : Int)] 1 (by omega) (by unfold maxLen; omega) rfl; exact this.cells (g := w7.heap.size) (by simp [Value.ownBlock])) (by intro u hu; simp only [List.mem_cons, List.not_mem_nil, or_false] at hu; rcases hu with rfl | rfl | rfl | rfl <;> rfl) (by unfold maxLen; have := HG.out; omega) (by have := HG.out; omega) (by have := HS7.out.below.size; simp; omega) ?_; intro v8 w8 hown8 hg8 hnil8 hloc8))
                      have HN : Hid (ScI w s (us ++ [⟨3, ((bs s).drop p).take m, 0, p⟩]) (p + m) v8 w8) := Lib.hid ⟨roww_snoc (by unfold cW; rw [HME.out, show p + m - p = m from by omega]; rfl) hown8, (bA8 HS7.out.below HS7.out.below.size _).grown hg8 (bA8 HS7.out.below HS7.out.below.size _).size (fun q e => (HS7.out.row.lt q e).1), HS.out.go.word hlt HW.out, by have := HG.out; have := HS7.out.cnt; rw [List.length_append, List.length_singleton]; omega⟩
                      clear hown8 hg8 hnil8 hloc8
                      go_roundw
                      case rel => exact ⟨_, p + m, v8, rfl, (by first | rfl | (congr 1; omega)), by omega, HN⟩
                      case measure => simp [intOf]; omega

      · obtain rfl : p = s.size := by omega
        as_aux_lemma =>
          have HG := Lib.hid (show us.length + 1 ≤ 16385 ∧ s.size ≤ 16384 from by have := HS.out.cnt; omega)
          have HF := Lib.hid (HS.out.go.fin hbig)
          have hlf : ¬ ((s.size : Int) < (s.size : Int)) := by omega
          go_wp2_with (at_builtin; refine wpList_append_own_at _ rfl _ _ 31 rfl w.heap.size 41 i0 (.agg #[.int .i64 0, .string ⟨#[]⟩, .int .i64 0, .int .i64 0]) 4 40 Tryd.underlying31 hi0 hz0 hz1 hz2 rfl (by decide) _ _ _ rfl (HS.out.row.alloc _) ⟨wr.heap.size, 0, none⟩ 1 1 [.int .i64 4, .string ⟨#[]⟩, .int .i64 0, .int .i64 (s.size : Int)] rfl rfl (by have := World.ownsRow_lit (base := 0) (e := 41) (size := 4) wr #[.int .i64 4, .string ⟨#[]⟩, .int .i64 0, .int .i64 (s.size : Int)] 1 (by omega) (by unfold maxLen; omega) rfl; exact this.cells (g := wr.heap.size) (by simp [Value.ownBlock])) (by intro u hu; simp only [List.mem_cons, List.not_mem_nil, or_false] at hu; rcases hu with rfl | rfl | rfl | rfl <;> rfl) (by unfold maxLen; have := HG.out; omega) (by have := HG.out; omega) (by have := HS.out.below.size; simp; omega) ?_; intro v8 w8 hown8 hg8 hnil8 hloc8)
          have HB8 := Lib.hid ((bA8 HS.out.below HS.out.below.size (.cells #[.int .i64 4, .string ⟨#[]⟩, .int .i64 0, .int .i64 (s.size : Int)] 41)).grown hg8 (bA8 HS.out.below HS.out.below.size _).size (fun q e => (HS.out.row.lt q e).1))
          exact bodyPost_ret (v := .tuple #[v8, .int .i64 0, .int .i64 0]) (by simp [results, Tryd.results10, go_sem]) rfl (scA_yes HF.out (roww_snoc (by unfold cW; rfl) hown8) HB8.out)
  · have hd0 : decide ((s.size : Int) > 16384) = true := decide_eq_true (by omega)
    have hd1 : decide (16384 < s.size) = true := decide_eq_true (by omega)
    have HB := Lib.hid (scA_no (scan_long (s := s) (by omega)) (Below.refl w.heap.size w))
    go_enter Tryd.func10, Tryd.ntmps10
    go_wp2
    exact bodyPost_ret (v := .tuple #[.slice none 0 0, .int .i64 0, .int .i64 9]) (by simp [results, Tryd.results10, go_sem]) rfl HB.out
end Go.Proofs.YtikpbfghdiomgaaDoor
