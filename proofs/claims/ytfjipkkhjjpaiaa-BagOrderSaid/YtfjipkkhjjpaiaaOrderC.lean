/-
  The law BagOrder over this seat's translation: a bag does not hang on the order in which things were put in. Conditions: those that each theorem states.
-/
import Derived.Test.YtfjipkkhjjpaiaaOrderM
import Derived.Deep.QuietTactic
import Derived.BigQuiet
import Derived.Test.YtfjipkkhjjpaiaaFrameB
namespace Go.Proofs.Ytfjipkkhjjpaiaa
open Go.RowKit Go.Shelf Go.Lib Go.Sort St

set_option maxRecDepth 1000000 in
set_option maxHeartbeats 16000000 in
theorem order_c2 (q tq : Option Addr) (cap tcap : Nat) (ys ts : List Int) (cut : Nat) (w : World) (hy : InList cI w q ys) (ht : InList cU w tq ts) (htb : ∀ t ∈ ts, 0 ≤ t ∧ t ≤ 255) (hcut : cut ≤ 255) :
    Calls Try.prog 3 #[.slice q ys.length cap, .slice tq ts.length tcap, .int .u8 (cut : Int)] w fun e w' => e = .returned (.bool true) ∧ Below w.heap.size w w' := by
  have mixed : Try.prog.follows .mixedOrders = true := by kernel_rfl
  have KA := Lib.hid fun (W : World) => awake_c W
  have HY := Lib.hid (And.intro hy (And.intro ht htb))
  clear hy ht htb
  go_enter Try.func3, Try.ntmps3
  go_wp2_with fail
  refine (KA.out _).mono ?_
  rintro e w1 ⟨rfl, hb1⟩
  by_cases hlen : ys.length ≤ 200 ∧ ts.length ≤ 200
  · have hd1 : decide ((ys.length : Int) > 200) = false := decide_eq_false (by omega)
    have hd2 : decide ((ts.length : Int) > 200) = false := decide_eq_false (by omega)
    obtain ⟨l1, l2⟩ := hlen
    obtain ⟨g, cp, w3, hrun, hrow, hg, hgl, hb3, hcp, hcm⟩ := appendNew_I q cap ys w1 (HY.out.1.same hb1 (Nat.le_refl _)) (by omega)
    have H3 := Lib.hid (And.intro (bT' hb1 hb3 hb1.size) (And.intro hrow (And.intro (show w.heap.size ≤ g from Nat.le_trans hb1.size hg) hgl)))
    unfold maxLen at hcm
    clear hrow hg hgl hb3 hb1
    have HRUN := Lib.hid hrun
    clear hrun
    go_wp2_with (at_builtin; refine wpList_append_run rfl _ _ 22 rfl rfl rfl HRUN.out ?_)
    go_loopw [8] (fun v wr => ∃ i : Nat, v = .int .i64 i ∧ i ≤ ts.length ∧ Hid (Below w.heap.size w wr ∧ ∃ M, M.Perm ys ∧ RowIs cI 1 3 g ys.length cp wr M)) (fun v _ => ts.length - (intOf v).toNat)
    case atStart => exact ⟨0, rfl, Nat.zero_le _, H3.out.1, ys, List.Perm.refl _, H3.out.2.1⟩
    case round =>
      obtain ⟨i, rfl, hi, HR⟩ := hrel
      by_cases hlt : i < ts.length ∧ 0 < ys.length
      · obtain ⟨hlt, hpos⟩ := hlt
        have hiz : (i : Int) < (ts.length : Int) := by omega
        have hd3 : decide ((ys.length : Int) > 0) = true := decide_eq_true (by omega)
        obtain ⟨hbw, M, hperm, hrow⟩ := HR.out
        obtain ⟨tg, toff, rfl, tcell⟩ := (HY.out.2.1.same hbw (Nat.le_refl _)).bytes (by omega)
        obtain ⟨tn, htn, htn2⟩ : ∃ tn : Nat, ts[i] = (tn : Int) ∧ tn ≤ 255 := by
          have := HY.out.2.2 ts[i] (List.getElem_mem hlt)
          exact ⟨ts[i].toNat, by omega, by omega⟩
        have tc := tcell i hlt
        rw [htn] at tc
        have ha : i % ys.length < ys.length := Nat.mod_lt _ hpos
        have hb : tn % ys.length < ys.length := Nat.mod_lt _ hpos
        have hma : Int.tmod (i : Int) (ys.length : Int) = ((i % ys.length : Nat) : Int) := by rw [Int.ofNat_tmod]
        have hmb : Int.tmod (tn : Int) (ys.length : Int) = ((tn % ys.length : Nat) : Int) := by rw [Int.ofNat_tmod]
        have hn0 : ¬ (ys.length : Int) = 0 := by omega
        generalize i % ys.length = a at *
        generalize tn % ys.length = b at *
        have hwt : IntKind.i64.wrap (tn : Int) = (tn : Int) := by rw [IntKind.wrap_i64] <;> omega
        have hwa : IntKind.i64.wrap (a : Int) = (a : Int) := by rw [IntKind.wrap_i64] <;> omega
        have hwb : IntKind.i64.wrap (b : Int) = (b : Int) := by rw [IntKind.wrap_i64] <;> omega
        go_wp2_with fail
        go_quiet (fail)
        have hrow2 : RowIs cI 1 3 g ys.length cp (wr.drewN nq) M := hrow.same cI_len rfl
        have hbw2 := below_dN hbw nq
        generalize wr.drewN nq = W2 at *
        have hMl := hrow2.len
        have hMa : a < M.length := by omega
        have hMb : b < M.length := by omega
        have hcell : ∀ c (hc : c < M.length), W2.cell? ⟨g, c, none⟩ = some (.int .i64 M[c]) := fun c hc => by
          have h1 := flat_get cI_len M c 0 hc (by omega)
          rw [Nat.mul_one, Nat.add_zero] at h1
          rw [hrow2.row.cellAt c (by omega), h1]
          rfl
        have ra := hcell a hMa
        have rb := hcell b hMb
        obtain ⟨_, fa, hrow3, hg3⟩ := hrow2.set_I (y := M[b]) ha
        obtain ⟨⟨u, cb⟩, fb, hrow4, hg4⟩ := hrow3.set_I (y := M[a]) hb
        have HE := Lib.hid (And.intro hrow4 (And.intro ((List.set_set_perm hMa hMb).trans hperm) (show Below w.heap.size w ((W2.setCell ⟨g, a, none⟩ (.int .i64 M[b])).setCell ⟨g, b, none⟩ (.int .i64 M[a])) from (hbw2.grown hg3 hbw2.size (fun k e => by cases e; exact H3.out.2.2.1)).grown hg4 (by simpa using hbw2.size) (fun k e => by cases e; exact H3.out.2.2.1))))
        clear hrow hrow2 hrow3 hrow4 hg3 hg4 hbw hbw2 hperm tcell hcell
        generalize M[a] = ma at *
        generalize M[b] = mb at *
        have haz : (a : Int) < (ys.length : Int) := by omega
        have hbz : (b : Int) < (ys.length : Int) := by omega
        go_wp2
        refine ⟨⟨i + 1, by go_num, by omega, HE.out.2.2, _, HE.out.2.1, HE.out.1⟩, by simp [intOf]; omega⟩
      · obtain ⟨hbw, M, hperm, hrow⟩ := HR.out
        have HROW := Lib.hid fun (V : World) (hV : Below wr.heap.size wr V) => hrow.same cI_len (hV.block g (Array.getElem?_eq_some_iff.1 hrow.whole.choose_spec.1).1)
        have HROW2 := Lib.hid hrow.len
        have HPERM := Lib.hid hperm
        have HW := Lib.hid hbw
        have KNx := Lib.hid (new_I cap q ys wr (HY.out.1.same hbw (Nat.le_refl _)) (by omega))
        clear hrow hperm hbw HR
        by_cases hpos : 0 < ys.length
        · have hd4 : decide ((ys.length : Int) > 0) = true := decide_eq_true (by omega)
          obtain rfl : i = ts.length := by omega
          have hk := Nat.mod_lt cut hpos
          have hmk : Int.tmod (cut : Int) (ys.length : Int) = ((cut % ys.length : Nat) : Int) := by rw [Int.ofNat_tmod]
          have hn0 : ¬ (ys.length : Int) = 0 := by omega
          generalize cut % ys.length = k at *
          have hwc : IntKind.i64.wrap (cut : Int) = (cut : Int) := by rw [IntKind.wrap_i64] <;> omega
          have hwk : IntKind.i64.wrap (k : Int) = (k : Int) := by rw [IntKind.wrap_i64] <;> omega
          have hkn : k ≤ ys.length := by omega
          have hkc : k ≤ cp := by omega
          have hknz : (k : Int) ≤ (ys.length : Int) := by omega
          have hckne : ¬ cp = k := by omega
          have hMl := HROW2.out
          go_wp2_with fail
          refine (KNx.out).mono ?_
          rintro e w5 ⟨hb5, bx, svx, Rx, rfl, ox, ix⟩
          have hMin := (HROW.out w5 hb5).list_to (Nat.le_refl _)
          rw [List.take_of_length_le (Nat.le_of_eq HROW2.out)] at hMin
          have KNy := new_I cp (some ⟨g, 0, none⟩) M w5 hMin (by have := HROW2.out; omega)
          rw [HROW2.out] at KNy
          have KNY := Lib.hid KNy
          have HX := Lib.hid (And.intro ox.bag ix)
          have HB := Lib.hid (bT' HW.out hb5 HW.out.size)
          have HROW := Lib.hid fun (V : World) (hV : Below w5.heap.size w5 V) => HROW.out V (bT2 hb5 hV)
          clear KNy hMin ox ix hb5 KNx
          go_wp2_with fail
          refine (KNY.out).mono ?_
          rintro e w6 ⟨hb6, by', svy, Ry, rfl, oy, iy⟩
          have HX := Lib.hid (And.intro (HX.out.1.below hb6) HX.out.2)
          have HY2 := Lib.hid (And.intro oy.bag iy)
          have HB := Lib.hid (bT' HB.out hb6 HB.out.size)
          have HROW := Lib.hid fun (V : World) (hV : Below w6.heap.size w6 V) => HROW.out V (bT2 hb6 hV)
          clear hb6 oy iy KNY
          have KNa := new_I cp (some ⟨g, 0, none⟩) (M.take k) w6 ((HROW.out w6 (Below.refl _ _)).list_to (by omega)) (by rw [List.length_take]; omega)
          rw [show (M.take k).length = k from by rw [List.length_take]; omega] at KNa
          have KNA := Lib.hid KNa
          clear KNa
          go_wp2_with fail
          refine (KNA.out).mono ?_
          rintro e w7 ⟨hb7, ba, sva, Ra, rfl, oa, ia⟩
          have HX := Lib.hid (And.intro (HX.out.1.below hb7) HX.out.2)
          have HY2 := Lib.hid (And.intro (HY2.out.1.below hb7) HY2.out.2)
          have HA := Lib.hid (And.intro oa.bag ia)
          have HB := Lib.hid (bT' HB.out hb7 HB.out.size)
          have KNb := new_I (cp - k) (some ⟨g, k, none⟩) (M.drop k) w7 (HROW.out w7 hb7).list_from (by rw [List.length_drop]; omega)
          rw [show (M.drop k).length = ys.length - k from by rw [List.length_drop]; omega] at KNb
          have KNB := Lib.hid KNb
          clear KNb hb7 oa ia KNA HROW
          go_wp2_with fail
          refine (KNB.out).mono ?_
          rintro e w8 ⟨hb8, bb, svb, Rb, rfl, ob, ib⟩
          obtain rfl : Rx = Ry := ins_perm HX.out.2 HY2.out.2 HPERM.out.symm
          have HX := Lib.hid (And.intro (HX.out.1.below hb8) HX.out.2)
          have HY2 := Lib.hid (And.intro (HY2.out.1.below hb8) HY2.out.2)
          have HA := Lib.hid (And.intro (HA.out.1.below hb8) HA.out.2)
          have HBB := Lib.hid (And.intro ob.bag ib)
          have HB := Lib.hid (bT' HB.out hb8 HB.out.size)
          have hRx : Rx.length = ys.length := by have := HX.out.2.len; simpa using this
          have hRa : Ra.length + Rb.length = ys.length := by
            have h1 := HA.out.2.len
            have h2 := HBB.out.2.len
            simp only [List.length_nil, List.length_take, List.length_drop] at h1 h2
            omega
          have hm1 : ∀ R : List Int, Ins (fun x : Int => x) Ra Rb R → R = Rx := fun _ h => ins_perm (ins_merge HA.out.2 HBB.out.2 h (zs := ys) (by first | (rw [List.take_append_drop]; exact HPERM.out) | exact HPERM.out)) HX.out.2 (List.Perm.refl _)
          have hm2 : ∀ R : List Int, Ins (fun x : Int => x) Rb Ra R → R = Rx := fun _ h => ins_perm (ins_merge HBB.out.2 HA.out.2 h (zs := ys) (List.perm_append_comm.trans (by first | (rw [List.take_append_drop]; exact HPERM.out) | exact HPERM.out))) HX.out.2 (List.Perm.refl _)
          have HM1 := Lib.hid hm1
          have HM2 := Lib.hid hm2
          have KS := Lib.hid (same_I bx by' svx svy Rx Rx w8 HX.out.1 HY2.out.1 (by omega))
          clear hb8 ob ib KNB hm1 hm2
          go_wp2_with fail
          refine (KS.out).mono ?_
          rintro e w9 ⟨rfl, hb9⟩
          rw [levels_self]
          have HX := Lib.hid (And.intro (HX.out.1.below hb9) HX.out.2)
          have HY2 := Lib.hid (And.intro (HY2.out.1.below hb9) HY2.out.2)
          have HA := Lib.hid (And.intro (HA.out.1.below hb9) HA.out.2)
          have HBB := Lib.hid (And.intro (HBB.out.1.below hb9) HBB.out.2)
          have HB := Lib.hid (bT' HB.out hb9 HB.out.size)
          have KM := Lib.hid (merge_I ba bb sva svb Ra Rb w9 HA.out.1 HBB.out.1 (by omega))
          clear hb9 KS
          go_wp2_with fail
          refine (KM.out).mono ?_
          rintro e w10 ⟨hb10, bm, svm, Rm, rfl, om, im⟩
          obtain rfl := HM1.out _ im
          have HX := Lib.hid (And.intro (HX.out.1.below hb10) HX.out.2)
          have HY2 := Lib.hid (And.intro (HY2.out.1.below hb10) HY2.out.2)
          have HA := Lib.hid (And.intro (HA.out.1.below hb10) HA.out.2)
          have HBB := Lib.hid (And.intro (HBB.out.1.below hb10) HBB.out.2)
          have HB := Lib.hid (bT' HB.out hb10 HB.out.size)
          have KS := Lib.hid (same_I bx bm svx svm _ _ w10 HX.out.1 om.bag (by omega))
          clear hb10 KM om im
          go_wp2_with fail
          refine (KS.out).mono ?_
          rintro e w11 ⟨rfl, hb11⟩
          rw [levels_self]
          have HX := Lib.hid (And.intro (HX.out.1.below hb11) HX.out.2)
          have HY2 := Lib.hid (And.intro (HY2.out.1.below hb11) HY2.out.2)
          have HA := Lib.hid (And.intro (HA.out.1.below hb11) HA.out.2)
          have HBB := Lib.hid (And.intro (HBB.out.1.below hb11) HBB.out.2)
          have HB := Lib.hid (bT' HB.out hb11 HB.out.size)
          have KM := Lib.hid (merge_I bb ba svb sva Rb Ra w11 HBB.out.1 HA.out.1 (by omega))
          clear hb11 KS
          go_wp2_with fail
          refine (KM.out).mono ?_
          rintro e w12 ⟨hb12, bn, svn, Rn, rfl, on, in'⟩
          have HRn := HM2.out _ in'
          subst HRn
          have HX := Lib.hid (And.intro (HX.out.1.below hb12) HX.out.2)
          have HY2 := Lib.hid (And.intro (HY2.out.1.below hb12) HY2.out.2)
          have HB := Lib.hid (bT' HB.out hb12 HB.out.size)
          have KS := Lib.hid (same_I bn by' svn svy _ _ w12 on.bag HY2.out.1 (by omega))
          clear hb12 KM on in'
          go_wp2_with fail
          refine (KS.out).mono ?_
          rintro e w13 ⟨rfl, hb13⟩
          rw [levels_self]
          have HX := Lib.hid (And.intro (HX.out.1.below hb13) HX.out.2)
          have HB := Lib.hid (bT' HB.out hb13 HB.out.size)
          have KL := Lib.hid (len_I bx 0 _ w13 HX.out.1.bag)
          clear hb13 KS
          go_wp2_with fail
          refine (KL.out).mono ?_
          rintro e w14 ⟨rfl, rfl⟩
          go_wp2
          go_ret
          exact ⟨by first | rfl | simp | simp [hRx], HB.out⟩
        · have hd4 : decide ((ys.length : Int) > 0) = false := decide_eq_false (by omega)
          obtain rfl : ys = [] := List.eq_nil_of_length_eq_zero (by omega)
          obtain rfl : M = [] := List.eq_nil_of_length_eq_zero HROW2.out
          by_cases hl2 : i < ts.length
          · have hiz : (i : Int) < (ts.length : Int) := by omega
            go_wp2_with fail
            refine (KNx.out).mono ?_
            rintro e w5 ⟨hb5, bx, svx, Rx, rfl, ox, ix⟩
            have KNy := new_I cp (some ⟨g, 0, none⟩) ([] : List Int) w5 (.inl rfl) (by decide)
            have KNY := Lib.hid KNy
            have HX := Lib.hid (And.intro ox.bag ix)
            have HB := Lib.hid (bT' HW.out hb5 HW.out.size)
            have HROW := Lib.hid fun (V : World) (hV : Below w5.heap.size w5 V) => HROW.out V (bT2 hb5 hV)
            clear KNy ox ix hb5 KNx
            go_wp2_with fail
            refine (KNY.out).mono ?_
            rintro e w6 ⟨hb6, by', svy, Ry, rfl, oy, iy⟩
            have HX := Lib.hid (And.intro (HX.out.1.below hb6) HX.out.2)
            have HY2 := Lib.hid (And.intro oy.bag iy)
            have HB := Lib.hid (bT' HB.out hb6 HB.out.size)
            have HROW := Lib.hid fun (V : World) (hV : Below w6.heap.size w6 V) => HROW.out V (bT2 hb6 hV)
            clear hb6 oy iy KNY
            have KNa := new_I cp (some ⟨g, 0, none⟩) ([] : List Int) w6 (.inl rfl) (by decide)
            have KNA := Lib.hid KNa
            clear KNa
            go_wp2_with fail
            refine (KNA.out).mono ?_
            rintro e w7 ⟨hb7, ba, sva, Ra, rfl, oa, ia⟩
            have HX := Lib.hid (And.intro (HX.out.1.below hb7) HX.out.2)
            have HY2 := Lib.hid (And.intro (HY2.out.1.below hb7) HY2.out.2)
            have HA := Lib.hid (And.intro oa.bag ia)
            have HB := Lib.hid (bT' HB.out hb7 HB.out.size)
            have KNb := new_I cp (some ⟨g, 0, none⟩) ([] : List Int) w7 (.inl rfl) (by decide)
            have KNB := Lib.hid KNb
            clear KNb hb7 oa ia KNA HROW
            go_wp2_with fail
            refine (KNB.out).mono ?_
            rintro e w8 ⟨hb8, bb, svb, Rb, rfl, ob, ib⟩
            obtain rfl : Rx = Ry := ins_perm HX.out.2 HY2.out.2 HPERM.out.symm
            have HX := Lib.hid (And.intro (HX.out.1.below hb8) HX.out.2)
            have HY2 := Lib.hid (And.intro (HY2.out.1.below hb8) HY2.out.2)
            have HA := Lib.hid (And.intro (HA.out.1.below hb8) HA.out.2)
            have HBB := Lib.hid (And.intro ob.bag ib)
            have HB := Lib.hid (bT' HB.out hb8 HB.out.size)
            have hRx : Rx.length = 0 := by have := HX.out.2.len; simpa using this
            have hRa : Ra.length + Rb.length = 0 := by
              have h1 := HA.out.2.len
              have h2 := HBB.out.2.len
              simp only [List.length_nil] at h1 h2
              omega
            have hm1 : ∀ R : List Int, Ins (fun x : Int => x) Ra Rb R → R = Rx := fun _ h => ins_perm (ins_merge HA.out.2 HBB.out.2 h (zs := []) (by first | (rw [List.take_append_drop]; exact HPERM.out) | exact HPERM.out)) HX.out.2 (List.Perm.refl _)
            have hm2 : ∀ R : List Int, Ins (fun x : Int => x) Rb Ra R → R = Rx := fun _ h => ins_perm (ins_merge HBB.out.2 HA.out.2 h (zs := []) (List.perm_append_comm.trans (by first | (rw [List.take_append_drop]; exact HPERM.out) | exact HPERM.out))) HX.out.2 (List.Perm.refl _)
            have HM1 := Lib.hid hm1
            have HM2 := Lib.hid hm2
            have KS := Lib.hid (same_I bx by' svx svy Rx Rx w8 HX.out.1 HY2.out.1 (by omega))
            clear hb8 ob ib KNB hm1 hm2
            go_wp2_with fail
            refine (KS.out).mono ?_
            rintro e w9 ⟨rfl, hb9⟩
            rw [levels_self]
            have HX := Lib.hid (And.intro (HX.out.1.below hb9) HX.out.2)
            have HY2 := Lib.hid (And.intro (HY2.out.1.below hb9) HY2.out.2)
            have HA := Lib.hid (And.intro (HA.out.1.below hb9) HA.out.2)
            have HBB := Lib.hid (And.intro (HBB.out.1.below hb9) HBB.out.2)
            have HB := Lib.hid (bT' HB.out hb9 HB.out.size)
            have KM := Lib.hid (merge_I ba bb sva svb Ra Rb w9 HA.out.1 HBB.out.1 (by omega))
            clear hb9 KS
            go_wp2_with fail
            refine (KM.out).mono ?_
            rintro e w10 ⟨hb10, bm, svm, Rm, rfl, om, im⟩
            obtain rfl := HM1.out _ im
            have HX := Lib.hid (And.intro (HX.out.1.below hb10) HX.out.2)
            have HY2 := Lib.hid (And.intro (HY2.out.1.below hb10) HY2.out.2)
            have HA := Lib.hid (And.intro (HA.out.1.below hb10) HA.out.2)
            have HBB := Lib.hid (And.intro (HBB.out.1.below hb10) HBB.out.2)
            have HB := Lib.hid (bT' HB.out hb10 HB.out.size)
            have KS := Lib.hid (same_I bx bm svx svm _ _ w10 HX.out.1 om.bag (by omega))
            clear hb10 KM om im
            go_wp2_with fail
            refine (KS.out).mono ?_
            rintro e w11 ⟨rfl, hb11⟩
            rw [levels_self]
            have HX := Lib.hid (And.intro (HX.out.1.below hb11) HX.out.2)
            have HY2 := Lib.hid (And.intro (HY2.out.1.below hb11) HY2.out.2)
            have HA := Lib.hid (And.intro (HA.out.1.below hb11) HA.out.2)
            have HBB := Lib.hid (And.intro (HBB.out.1.below hb11) HBB.out.2)
            have HB := Lib.hid (bT' HB.out hb11 HB.out.size)
            have KM := Lib.hid (merge_I bb ba svb sva Rb Ra w11 HBB.out.1 HA.out.1 (by omega))
            clear hb11 KS
            go_wp2_with fail
            refine (KM.out).mono ?_
            rintro e w12 ⟨hb12, bn, svn, Rn, rfl, on, in'⟩
            have HRn := HM2.out _ in'
            subst HRn
            have HX := Lib.hid (And.intro (HX.out.1.below hb12) HX.out.2)
            have HY2 := Lib.hid (And.intro (HY2.out.1.below hb12) HY2.out.2)
            have HB := Lib.hid (bT' HB.out hb12 HB.out.size)
            have KS := Lib.hid (same_I bn by' svn svy _ _ w12 on.bag HY2.out.1 (by omega))
            clear hb12 KM on in'
            go_wp2_with fail
            refine (KS.out).mono ?_
            rintro e w13 ⟨rfl, hb13⟩
            rw [levels_self]
            have HX := Lib.hid (And.intro (HX.out.1.below hb13) HX.out.2)
            have HB := Lib.hid (bT' HB.out hb13 HB.out.size)
            have KL := Lib.hid (len_I bx 0 _ w13 HX.out.1.bag)
            clear hb13 KS
            go_wp2_with fail
            refine (KL.out).mono ?_
            rintro e w14 ⟨rfl, rfl⟩
            go_wp2
            go_ret
            exact ⟨by first | rfl | simp | simp [hRx], HB.out⟩
          · obtain rfl : i = ts.length := by omega
            go_wp2_with fail
            refine (KNx.out).mono ?_
            rintro e w5 ⟨hb5, bx, svx, Rx, rfl, ox, ix⟩
            have KNy := new_I cp (some ⟨g, 0, none⟩) ([] : List Int) w5 (.inl rfl) (by decide)
            have KNY := Lib.hid KNy
            have HX := Lib.hid (And.intro ox.bag ix)
            have HB := Lib.hid (bT' HW.out hb5 HW.out.size)
            have HROW := Lib.hid fun (V : World) (hV : Below w5.heap.size w5 V) => HROW.out V (bT2 hb5 hV)
            clear KNy ox ix hb5 KNx
            go_wp2_with fail
            refine (KNY.out).mono ?_
            rintro e w6 ⟨hb6, by', svy, Ry, rfl, oy, iy⟩
            have HX := Lib.hid (And.intro (HX.out.1.below hb6) HX.out.2)
            have HY2 := Lib.hid (And.intro oy.bag iy)
            have HB := Lib.hid (bT' HB.out hb6 HB.out.size)
            have HROW := Lib.hid fun (V : World) (hV : Below w6.heap.size w6 V) => HROW.out V (bT2 hb6 hV)
            clear hb6 oy iy KNY
            have KNa := new_I cp (some ⟨g, 0, none⟩) ([] : List Int) w6 (.inl rfl) (by decide)
            have KNA := Lib.hid KNa
            clear KNa
            go_wp2_with fail
            refine (KNA.out).mono ?_
            rintro e w7 ⟨hb7, ba, sva, Ra, rfl, oa, ia⟩
            have HX := Lib.hid (And.intro (HX.out.1.below hb7) HX.out.2)
            have HY2 := Lib.hid (And.intro (HY2.out.1.below hb7) HY2.out.2)
            have HA := Lib.hid (And.intro oa.bag ia)
            have HB := Lib.hid (bT' HB.out hb7 HB.out.size)
            have KNb := new_I cp (some ⟨g, 0, none⟩) ([] : List Int) w7 (.inl rfl) (by decide)
            have KNB := Lib.hid KNb
            clear KNb hb7 oa ia KNA HROW
            go_wp2_with fail
            refine (KNB.out).mono ?_
            rintro e w8 ⟨hb8, bb, svb, Rb, rfl, ob, ib⟩
            obtain rfl : Rx = Ry := ins_perm HX.out.2 HY2.out.2 HPERM.out.symm
            have HX := Lib.hid (And.intro (HX.out.1.below hb8) HX.out.2)
            have HY2 := Lib.hid (And.intro (HY2.out.1.below hb8) HY2.out.2)
            have HA := Lib.hid (And.intro (HA.out.1.below hb8) HA.out.2)
            have HBB := Lib.hid (And.intro ob.bag ib)
            have HB := Lib.hid (bT' HB.out hb8 HB.out.size)
            have hRx : Rx.length = 0 := by have := HX.out.2.len; simpa using this
            have hRa : Ra.length + Rb.length = 0 := by
              have h1 := HA.out.2.len
              have h2 := HBB.out.2.len
              simp only [List.length_nil] at h1 h2
              omega
            have hm1 : ∀ R : List Int, Ins (fun x : Int => x) Ra Rb R → R = Rx := fun _ h => ins_perm (ins_merge HA.out.2 HBB.out.2 h (zs := []) (by first | (rw [List.take_append_drop]; exact HPERM.out) | exact HPERM.out)) HX.out.2 (List.Perm.refl _)
            have hm2 : ∀ R : List Int, Ins (fun x : Int => x) Rb Ra R → R = Rx := fun _ h => ins_perm (ins_merge HBB.out.2 HA.out.2 h (zs := []) (List.perm_append_comm.trans (by first | (rw [List.take_append_drop]; exact HPERM.out) | exact HPERM.out))) HX.out.2 (List.Perm.refl _)
            have HM1 := Lib.hid hm1
            have HM2 := Lib.hid hm2
            have KS := Lib.hid (same_I bx by' svx svy Rx Rx w8 HX.out.1 HY2.out.1 (by omega))
            clear hb8 ob ib KNB hm1 hm2
            go_wp2_with fail
            refine (KS.out).mono ?_
            rintro e w9 ⟨rfl, hb9⟩
            rw [levels_self]
            have HX := Lib.hid (And.intro (HX.out.1.below hb9) HX.out.2)
            have HY2 := Lib.hid (And.intro (HY2.out.1.below hb9) HY2.out.2)
            have HA := Lib.hid (And.intro (HA.out.1.below hb9) HA.out.2)
            have HBB := Lib.hid (And.intro (HBB.out.1.below hb9) HBB.out.2)
            have HB := Lib.hid (bT' HB.out hb9 HB.out.size)
            have KM := Lib.hid (merge_I ba bb sva svb Ra Rb w9 HA.out.1 HBB.out.1 (by omega))
            clear hb9 KS
            go_wp2_with fail
            refine (KM.out).mono ?_
            rintro e w10 ⟨hb10, bm, svm, Rm, rfl, om, im⟩
            obtain rfl := HM1.out _ im
            have HX := Lib.hid (And.intro (HX.out.1.below hb10) HX.out.2)
            have HY2 := Lib.hid (And.intro (HY2.out.1.below hb10) HY2.out.2)
            have HA := Lib.hid (And.intro (HA.out.1.below hb10) HA.out.2)
            have HBB := Lib.hid (And.intro (HBB.out.1.below hb10) HBB.out.2)
            have HB := Lib.hid (bT' HB.out hb10 HB.out.size)
            have KS := Lib.hid (same_I bx bm svx svm _ _ w10 HX.out.1 om.bag (by omega))
            clear hb10 KM om im
            go_wp2_with fail
            refine (KS.out).mono ?_
            rintro e w11 ⟨rfl, hb11⟩
            rw [levels_self]
            have HX := Lib.hid (And.intro (HX.out.1.below hb11) HX.out.2)
            have HY2 := Lib.hid (And.intro (HY2.out.1.below hb11) HY2.out.2)
            have HA := Lib.hid (And.intro (HA.out.1.below hb11) HA.out.2)
            have HBB := Lib.hid (And.intro (HBB.out.1.below hb11) HBB.out.2)
            have HB := Lib.hid (bT' HB.out hb11 HB.out.size)
            have KM := Lib.hid (merge_I bb ba svb sva Rb Ra w11 HBB.out.1 HA.out.1 (by omega))
            clear hb11 KS
            go_wp2_with fail
            refine (KM.out).mono ?_
            rintro e w12 ⟨hb12, bn, svn, Rn, rfl, on, in'⟩
            have HRn := HM2.out _ in'
            subst HRn
            have HX := Lib.hid (And.intro (HX.out.1.below hb12) HX.out.2)
            have HY2 := Lib.hid (And.intro (HY2.out.1.below hb12) HY2.out.2)
            have HB := Lib.hid (bT' HB.out hb12 HB.out.size)
            have KS := Lib.hid (same_I bn by' svn svy _ _ w12 on.bag HY2.out.1 (by omega))
            clear hb12 KM on in'
            go_wp2_with fail
            refine (KS.out).mono ?_
            rintro e w13 ⟨rfl, hb13⟩
            rw [levels_self]
            have HX := Lib.hid (And.intro (HX.out.1.below hb13) HX.out.2)
            have HB := Lib.hid (bT' HB.out hb13 HB.out.size)
            have KL := Lib.hid (len_I bx 0 _ w13 HX.out.1.bag)
            clear hb13 KS
            go_wp2_with fail
            refine (KL.out).mono ?_
            rintro e w14 ⟨rfl, rfl⟩
            go_wp2
            go_ret
            exact ⟨by first | rfl | simp | simp [hRx], HB.out⟩
  · have HB1 := Lib.hid hb1
    clear hb1
    by_cases hl : ys.length ≤ 200
    · have hd1 : decide ((ys.length : Int) > 200) = false := decide_eq_false (by omega)
      have hd2 : decide ((ts.length : Int) > 200) = true := decide_eq_true (by omega)
      go_wp2_with fail
      refine (KA.out _).mono ?_
      rintro e w2 ⟨rfl, hb2⟩
      have HB2 := Lib.hid (bT' HB1.out hb2 HB1.out.size)
      clear hb2
      go_wp2
      go_ret
      exact ⟨rfl, HB2.out⟩
    · have hd1 : decide ((ys.length : Int) > 200) = true := decide_eq_true (by omega)
      go_wp2_with fail
      refine (KA.out _).mono ?_
      rintro e w2 ⟨rfl, hb2⟩
      have HB2 := Lib.hid (bT' HB1.out hb2 HB1.out.size)
      clear hb2
      go_wp2
      go_ret
      exact ⟨rfl, HB2.out⟩
end Go.Proofs.Ytfjipkkhjjpaiaa
