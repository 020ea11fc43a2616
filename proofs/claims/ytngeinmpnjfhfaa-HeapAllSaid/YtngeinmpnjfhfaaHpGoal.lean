/-
  heap's goal over this seat's translation. No condition but those that each theorem states.
-/
import Derived.Test.YtngeinmpnjfhfaaHpLess
namespace Go.Proofs.Ytngeinmpnjfhfaa
open Go.Shelf Go.RowKit Go.Lib Go.Sort Hp

/-- Nothing is turned; blocks are laid, and orders drawn. -/
def G (w wr : World) : Prop := ∃ q os, wr = grow (w.drewN q) os
theorem G.refl (w : World) : G w w := ⟨0, #[], by rw [World.drewN_zero, grow_empty]⟩
theorem G.trans {a b c : World} (h : G a b) (k : G b c) : G a c := by
  obtain ⟨q, os, rfl⟩ := h
  obtain ⟨q2, os2, rfl⟩ := k
  exact ⟨q + q2, os ++ os2, by show grow (grow ((a.drewN q).drewN q2) os) os2 = _; rw [grow_grow, World.drewN_drewN]⟩
theorem G.alloc (w : World) (o : Obj) : G w (w.alloc o) := ⟨0, #[o], by rw [alloc_eq_grow]; rfl⟩
theorem G.cg {a b : World} (h : G a b) {p : Addr} {v : Value} (hc : a.cell? p = some v) : ∀ n os, (grow (b.drewN n) os).cell? p = some v := by
  obtain ⟨q, os, rfl⟩ := h
  exact _root_.Go.Proofs.Ytngeinmpnjfhfaa.cg (_root_.Go.Proofs.Ytngeinmpnjfhfaa.cg hc q os)
theorem G.cell {a b : World} (h : G a b) {p : Addr} {v : Value} (hc : a.cell? p = some v) : b.cell? p = some v := by
  obtain ⟨q, os, rfl⟩ := h
  exact _root_.Go.Proofs.Ytngeinmpnjfhfaa.cg hc q os
theorem G.lies {a b : World} (h : G a b) {p : Option Addr} {L : List It} (hl : Lies a p L) : Lies b p L := by
  obtain ⟨q, os, rfl⟩ := h
  exact hl.grown q os
theorem G.below {a b : World} (h : G a b) : Below a.heap.size a b := by
  obtain ⟨q, os, rfl⟩ := h
  exact below_grown_sl _ _ _ _ (Nat.le_refl _)

set_option maxHeartbeats 16000000 in
set_option maxRecDepth 100000 in
theorem goal_g (hb cap : Nat) (p : Option Addr) (L : List It) (t : Nat) (e : It) (w : World) (h0 : w.cell? ⟨hb, 0, none⟩ = some (.func (.func 10) #[] #[])) (hL : Lies w p L) (hlen : L.length ≤ 1000000) (ht : t ≤ L.length) :
    Calls Try.prog 32 #[.pointer (some ⟨hb, 0, none⟩), .slice p L.length cap, .int .i64 t, .agg #[.int .i64 e.1, .int .i64 e.2]] w fun r w' => r = .returned (.int .i64 (goal L e t : Nat)) ∧ G w w' := by
  have mixed : Try.prog.follows .mixedOrders = true := by kernel_rfl
  have eg : ∀ args w, (callFunc 10 args).run Try.prog w = .ok (.enter 10 args) w := enters_of Try.func10 (by kernel_rfl) rfl
  have eg2 : ∀ args w, (callFunc 42 args).run Try.prog w = .ok (.enter 42 args) w := enters_of Try.func42 (by kernel_rfl) rfl
  have KO := Lib.hid fun (x y : It) (w : World) => order_g x y w
  obtain ⟨n, hn⟩ : ∃ n, L.length = n := ⟨_, rfl⟩
  obtain ⟨R, hR⟩ : ∃ R, goal L e t = R := ⟨_, rfl⟩
  rw [hR]
  have HRR := Lib.hid hR
  clear hR
  have htn : t ≤ n := by omega
  have hnm : n ≤ 1000000 := by omega
  rw [hn]
  have b0 : (w.alloc (.cells #[.int .i64 e.1, .int .i64 e.2] 33)).cell? ⟨w.heap.size, 0, none⟩ = some (.int .i64 e.1) := by go_simp
  have b1 : (w.alloc (.cells #[.int .i64 e.1, .int .i64 e.2] 33)).cell? ⟨w.heap.size, 1, none⟩ = some (.int .i64 e.2) := by go_simp
  have HW0 := Lib.hid (G.alloc w (.cells #[.int .i64 e.1, .int .i64 e.2] 33))
  have h0 := HW0.out.cell h0
  have hL := HW0.out.lies hL
  go_enter Try.func32, Try.ntmps32
  go_wp2
  generalize w.alloc (.cells #[.int .i64 e.1, .int .i64 e.2] 33) = W0 at *
  go_loopw [9] (fun v wr => ∃ t' : Nat, v = .int .i64 t' ∧ t' ≤ t ∧ Hid (gUp L e t' = gUp L e t ∧ G W0 wr)) (fun v _ => (intOf v).toNat)
  case atStart => exact ⟨t, rfl, Nat.le_refl _, rfl, G.refl _⟩
  case round =>
    obtain ⟨t', rfl, htt, HH⟩ := hrel
    by_cases hpos : 0 < t'
    · have hd1 : decide ((t' : Int) > 0) = true := decide_eq_true (by omega)
      have hd2 : decide (0 < t') = true := decide_eq_true hpos
      have KA := Lib.hid fun (w : World) => above_pos t' hpos (by omega) w
      obtain ⟨u, hu⟩ : ∃ u, up t' = u := ⟨_, rfl⟩
      have hut : u < t' := by rw [← hu]; exact up_lt hpos
      have HUE := Lib.hid (show gUp L e t' = (if ltE e (Hp.g L u) = true then gUp L e u else t') from by
        rw [gUp, ← hu]
        split
        · next h => rw [if_pos h.2]
        · next h => rw [if_neg (fun k => h ⟨hpos, k⟩)])
      rw [hu] at KA
      obtain ⟨g, hp, a1, a2⟩ := hL u (by omega)
      obtain ⟨x, hx⟩ : ∃ x, Hp.g L u = x := ⟨_, rfl⟩
      rw [hx] at a1 a2 HUE
      have huz : (u : Int) < (n : Int) := by omega
      have c0 := HH.out.2.cg h0
      have c1 := HH.out.2.cg a1
      have c2 := HH.out.2.cg a2
      have c3 := HH.out.2.cg b0
      have c4 := HH.out.2.cg b1
      have HZ := Lib.hid (And.intro h0 (And.intro b0 (And.intro b1 (And.intro hL (And.intro hp hut)))))
      clear h0 b0 b1 hL hp hu a1 a2 hx hut
      rw [HZ.out.2.2.2.2.1]
      go_wp2_with fail
      go_quiet_grown (first | (go_at_fn 42; exact Calls.grown_of ((KA.out _).mono fun _ _ ⟨h1, h2⟩ => ⟨h1, by rw [h2]; exact G.refl _⟩)) | (go_at_fn 10; exact Calls.grown_of (KO.out e x _)))
      have hz := cmpE_lt e x
      have HG := Lib.hid (HH.out.2.trans ⟨nq, osq, rfl⟩)
      generalize grow (wr.drewN nq) osq = w3 at *
      clear c0 c1 c2 c3 c4
      obtain ⟨h0, b0, b1, hL, hp, hut⟩ := HZ.out
      cases h : ltE e x
      · have HU : gUp L e t = t' := by
          have := HUE.out
          rw [h, if_neg (by simp)] at this
          rw [← HH.out.1, this]
        rw [h] at hz
        have hz2 : ¬ cmpE e x < 0 := of_decide_eq_false hz
        have hz3 : 0 ≤ cmpE e x := by omega
        rw [← HZ.out.2.2.2.2.1]
        clear HH HUE h KA
        clear huz hd1 hd2 hp hut HZ
        have hgt : gUp L e t = t' := HU
        have HR := Lib.hid (show (if t' < t then t' else gDn L e t') = R from by rw [← HRR.out]; unfold goal; rw [hgt])
        clear hgt HU
        by_cases hdn : t' < t
        · have hd3 : decide ((t' : Int) < (t : Int)) = true := decide_eq_true (by omega)
          have hd4 : decide (t' < t) = true := decide_eq_true hdn
          go_wp2
          go_ret
          refine ⟨?_, HW0.out.trans HG.out⟩
          rw [← HR.out, if_pos hdn]
          rfl
        · have hd3 : decide ((t' : Int) < (t : Int)) = false := decide_eq_false (by omega)
          have hd4 : decide (t' < t) = false := decide_eq_false hdn
          have HR2 := Lib.hid (show gDn L e t' = R from by have := HR.out; rwa [if_neg hdn] at this)
          clear HR
          go_wp2
          go_loopw [9] (fun v wr => ∃ s : Nat, v = .int .i64 s ∧ s ≤ 1000000 ∧ Hid (gDn L e s = R ∧ G W0 wr)) (fun v _ => 1000000 - (intOf v).toNat)
          case atStart => exact ⟨t', rfl, by omega, HR2.out, HG.out⟩
          case round =>
            clear HG HR2 hd3 hd4 hdn
            obtain ⟨s, rfl, hs, HS⟩ := hrel
            have KL := Lib.hid (lesser_g hb cap p L s wr (HS.out.2.cell h0) (HS.out.2.lies hL) hs)
            rw [hn] at KL
            go_wp2_with fail
            refine KL.out.mono ?_
            rintro e2 w2 ⟨rfl, q2, os2, rfl⟩
            have HG2 := Lib.hid (HS.out.2.trans ⟨q2, os2, rfl⟩)
            generalize grow (wr.drewN q2) os2 = w2 at *
            obtain ⟨b, hb'⟩ : ∃ b, lessr L s = b := ⟨_, rfl⟩
            have HB := Lib.hid (show s < b ∧ gDn L e s = (if b < n ∧ ltE (Hp.g L b) e = true then gDn L e b else s) from by
              rw [← hb', ← hn]
              refine ⟨(up_lessr L s).2, ?_⟩
              rw [gDn]
              split <;> rfl)
            rw [hb']
            clear hb' KL
            by_cases hlt : b < n
            · have hd5 : decide ((b : Int) ≥ (n : Int)) = false := decide_eq_false (by omega)
              have hd6 : decide (n ≤ b) = false := decide_eq_false (by omega)
              have hbz : (b : Int) < (n : Int) := by omega
              obtain ⟨x, hx⟩ : ∃ x, Hp.g L b = x := ⟨_, rfl⟩
              obtain ⟨g, hp, a1, a2⟩ := hL b (by omega)
              rw [hx] at a1 a2
              have c0 := HG2.out.cg h0
              have c1 := HG2.out.cg a1
              have c2 := HG2.out.cg a2
              have c3 := HG2.out.cg b0
              have c4 := HG2.out.cg b1
              have HX := Lib.hid hx
              have HP := Lib.hid hp
              have HL := Lib.hid hL
              have HZ := Lib.hid (And.intro h0 (And.intro b0 b1))
              clear hL hx a1 a2 h0 b0 b1 hp hlt
              rw [HP.out]
              go_wp2_with fail
              go_quiet_grown (first | (go_at_fn 10; exact Calls.grown_of (KO.out x e _)))
              have hz := cmpE_ge x e
              have HG3 := Lib.hid (HG2.out.trans ⟨nq, osq, rfl⟩)
              generalize grow (w2.drewN nq) osq = w3 at *
              clear c0 c1 c2 c3 c4 HG2
              cases h : ltE x e
              · rw [h] at hz
                have hz2 : cmpE x e ≥ 0 := of_decide_eq_true hz
                have hz3 : ¬ cmpE x e < 0 := by omega
                go_wp2
                go_ret
                refine ⟨?_, HW0.out.trans HG3.out⟩
                have h1 := HS.out.1
                rw [HB.out.2, HX.out, h, if_neg (by simp)] at h1
                rw [← h1]
                rfl
              · rw [h] at hz
                have hz2 : ¬ cmpE x e ≥ 0 := of_decide_eq_false hz
                have hz3 : cmpE x e < 0 := by omega
                go_wp2
                have h1 := HS.out.1
                rw [HB.out.2, HX.out, h, if_pos ⟨by omega, rfl⟩] at h1
                have := HB.out.1
                exact ⟨⟨_, _, ⟨b, rfl, by omega, h1, HG3.out⟩, by repeat' (first | rfl | exact HP.out.symm | refine And.intro ?_ ?_)⟩, by simp [intOf]; omega⟩
            · have hd5 : decide ((b : Int) ≥ (n : Int)) = true := decide_eq_true (by omega)
              have hd6 : decide (n ≤ b) = true := decide_eq_true (by omega)
              have HL := Lib.hid hL
              have HN := Lib.hid hlt
              clear hL hlt
              go_wp2_with fail
              go_quiet (fail)
              go_wp2
              go_ret
              refine ⟨?_, HW0.out.trans (HG2.out.trans ⟨nq, #[], by rw [grow_empty]⟩)⟩
              have h1 := HS.out.1
              rw [HB.out.2, if_neg (fun h => HN.out h.1)] at h1
              rw [← h1]
              rfl
      · rw [h] at hz
        have hz2 : cmpE e x < 0 := of_decide_eq_true hz
        have hz3 : ¬ 0 ≤ cmpE e x := by omega
        have HQ := Lib.hid (And.intro h0 (And.intro b0 (And.intro b1 (And.intro hL (And.intro hp hut)))))
        clear h0 b0 b1 hL hp hut HZ
        go_wp2_with fail
        refine (KA.out _).mono ?_
        rintro e2 w4 ⟨rfl, rfl⟩
        go_wp2
        have := HQ.out.2.2.2.2.2
        have h1 := HUE.out
        rw [h, if_pos rfl] at h1
        exact ⟨⟨u, rfl, by omega, by rw [← h1]; exact HH.out.1, HG.out⟩, by simp [intOf]; omega⟩
    · have hd1 : decide ((t' : Int) > 0) = false := decide_eq_false (by omega)
      have hd2 : decide (0 < t') = false := decide_eq_false hpos
      have HU : gUp L e t = t' := by
        rw [← HH.out.1, gUp, dif_neg (fun k => hpos k.1)]
      go_wp2_with fail
      go_quiet (fail)
      have HG := Lib.hid (HH.out.2.trans ⟨nq, #[], by rw [grow_empty]⟩)
      generalize wr.drewN nq = w3 at *
      clear HH
      have hgt : gUp L e t = t' := HU
      have HR := Lib.hid (show (if t' < t then t' else gDn L e t') = R from by rw [← HRR.out]; unfold goal; rw [hgt])
      clear hgt HU
      by_cases hdn : t' < t
      · have hd3 : decide ((t' : Int) < (t : Int)) = true := decide_eq_true (by omega)
        have hd4 : decide (t' < t) = true := decide_eq_true hdn
        go_wp2
        go_ret
        refine ⟨?_, HW0.out.trans HG.out⟩
        rw [← HR.out, if_pos hdn]
        rfl
      · have hd3 : decide ((t' : Int) < (t : Int)) = false := decide_eq_false (by omega)
        have hd4 : decide (t' < t) = false := decide_eq_false hdn
        have HR2 := Lib.hid (show gDn L e t' = R from by have := HR.out; rwa [if_neg hdn] at this)
        clear HR
        go_wp2
        go_loopw [9] (fun v wr => ∃ s : Nat, v = .int .i64 s ∧ s ≤ 1000000 ∧ Hid (gDn L e s = R ∧ G W0 wr)) (fun v _ => 1000000 - (intOf v).toNat)
        case atStart => exact ⟨t', rfl, by omega, HR2.out, HG.out⟩
        case round =>
          clear HG HR2 hd3 hd4 hdn
          obtain ⟨s, rfl, hs, HS⟩ := hrel
          have KL := Lib.hid (lesser_g hb cap p L s wr (HS.out.2.cell h0) (HS.out.2.lies hL) hs)
          rw [hn] at KL
          go_wp2_with fail
          refine KL.out.mono ?_
          rintro e2 w2 ⟨rfl, q2, os2, rfl⟩
          have HG2 := Lib.hid (HS.out.2.trans ⟨q2, os2, rfl⟩)
          generalize grow (wr.drewN q2) os2 = w2 at *
          obtain ⟨b, hb'⟩ : ∃ b, lessr L s = b := ⟨_, rfl⟩
          have HB := Lib.hid (show s < b ∧ gDn L e s = (if b < n ∧ ltE (Hp.g L b) e = true then gDn L e b else s) from by
            rw [← hb', ← hn]
            refine ⟨(up_lessr L s).2, ?_⟩
            rw [gDn]
            split <;> rfl)
          rw [hb']
          clear hb' KL
          by_cases hlt : b < n
          · have hd5 : decide ((b : Int) ≥ (n : Int)) = false := decide_eq_false (by omega)
            have hd6 : decide (n ≤ b) = false := decide_eq_false (by omega)
            have hbz : (b : Int) < (n : Int) := by omega
            obtain ⟨x, hx⟩ : ∃ x, Hp.g L b = x := ⟨_, rfl⟩
            obtain ⟨g, hp, a1, a2⟩ := hL b (by omega)
            rw [hx] at a1 a2
            have c0 := HG2.out.cg h0
            have c1 := HG2.out.cg a1
            have c2 := HG2.out.cg a2
            have c3 := HG2.out.cg b0
            have c4 := HG2.out.cg b1
            have HX := Lib.hid hx
            have HP := Lib.hid hp
            have HL := Lib.hid hL
            have HZ := Lib.hid (And.intro h0 (And.intro b0 b1))
            clear hL hx a1 a2 h0 b0 b1 hp hlt
            rw [HP.out]
            go_wp2_with fail
            go_quiet_grown (first | (go_at_fn 10; exact Calls.grown_of (KO.out x e _)))
            have hz := cmpE_ge x e
            have HG3 := Lib.hid (HG2.out.trans ⟨nq, osq, rfl⟩)
            generalize grow (w2.drewN nq) osq = w3 at *
            clear c0 c1 c2 c3 c4 HG2
            cases h : ltE x e
            · rw [h] at hz
              have hz2 : cmpE x e ≥ 0 := of_decide_eq_true hz
              have hz3 : ¬ cmpE x e < 0 := by omega
              go_wp2
              go_ret
              refine ⟨?_, HW0.out.trans HG3.out⟩
              have h1 := HS.out.1
              rw [HB.out.2, HX.out, h, if_neg (by simp)] at h1
              rw [← h1]
              rfl
            · rw [h] at hz
              have hz2 : ¬ cmpE x e ≥ 0 := of_decide_eq_false hz
              have hz3 : cmpE x e < 0 := by omega
              go_wp2
              have h1 := HS.out.1
              rw [HB.out.2, HX.out, h, if_pos ⟨by omega, rfl⟩] at h1
              have := HB.out.1
              exact ⟨⟨_, _, ⟨b, rfl, by omega, h1, HG3.out⟩, by repeat' (first | rfl | exact HP.out.symm | refine And.intro ?_ ?_)⟩, by simp [intOf]; omega⟩
          · have hd5 : decide ((b : Int) ≥ (n : Int)) = true := decide_eq_true (by omega)
            have hd6 : decide (n ≤ b) = true := decide_eq_true (by omega)
            have HL := Lib.hid hL
            have HN := Lib.hid hlt
            clear hL hlt
            go_wp2_with fail
            go_quiet (fail)
            go_wp2
            go_ret
            refine ⟨?_, HW0.out.trans (HG2.out.trans ⟨nq, #[], by rw [grow_empty]⟩)⟩
            have h1 := HS.out.1
            rw [HB.out.2, if_neg (fun h => HN.out h.1)] at h1
            rw [← h1]
            rfl
end Go.Proofs.Ytngeinmpnjfhfaa
