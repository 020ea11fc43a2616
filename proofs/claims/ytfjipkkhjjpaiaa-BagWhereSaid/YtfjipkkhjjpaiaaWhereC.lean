/-
  The law BagWhere over this seat's translation: what is gone through of which something is so is just that, however soon one stops. Conditions: those that each theorem states.
-/
import Derived.Test.YtfjipkkhjjpaiaaWhereI
namespace Go.Proofs.Ytfjipkkhjjpaiaa
open Go.RowKit Go.Shelf Go.Lib Go.Sort St
attribute [local go_sem] Oper.semAt_some

theorem ins_evens {xs R : List Int} (h : Ins (fun x : Int => x) [] xs R) : (R.filter evn).length = xs.countP evn := by
  have hp : R.Perm xs := by
    rw [List.perm_iff_count]
    intro a
    have := h.countP a
    unfold List.count
    exact this
  rw [← List.countP_eq_length_filter]
  exact hp.countP_eq _
theorem evn_getD {xs : List Int} {k : Nat} (hk : k < (xs.filter evn).length) : evn ((xs.filter evn).getD k default) = true := by
  rw [List.getD_eq_getElem?_getD, List.getElem?_eq_getElem hk]
  exact (List.mem_filter.1 (List.getElem_mem hk)).2

set_option maxRecDepth 1000000 in
set_option maxHeartbeats 16000000 in
theorem wherel_c (q : Option Addr) (cap : Nat) (ys : List Int) (stop : Nat) (w : World) (hy : InList cI w q ys) (hstop255 : stop ≤ 255) :
    Calls Try.prog 6 #[.slice q ys.length cap, .int .u8 (stop : Int)] w fun e w' => e = .returned (.bool true) ∧ Below w.heap.size w w' := by
  have KA := Lib.hid fun (W : World) => awake_c W
  have HY := Lib.hid hy
  clear hy
  refine (callsIn_wide (n := 0)).1 ?_
  refine callsIn_of_wp_marks Try.func6 rfl trivial ?_ rfl
  simp only [Try.ntmps6, List.size_toArray, List.length_cons, List.length_nil, Nat.reduceAdd, Nat.reduceSub, Array.replicate_succ, Array.replicate_zero, List.push_toArray, List.append_toArray, List.nil_append, List.cons_append]
  have hs0 := Box.new w (.int .u8 (stop : Int)) 5
  have hbs := bA' (Below.refl w.heap.size w) (Nat.le_refl _) (.cells #[.int .u8 (stop : Int)] 5)
  have he0 := Box.new (w.alloc (.cells #[.int .u8 (stop : Int)] 5)) (.bool false) 4
  have hbe := bA' (Below.refl (w.alloc (.cells #[.int .u8 (stop : Int)] 5)).heap.size (w.alloc (.cells #[.int .u8 (stop : Int)] 5))) (Nat.le_refl _) (.cells #[.bool false] 4)
  have hs0 := hs0.below hbe
  have hb0 := bT2 hbs hbe
  rw [World.size_alloc] at he0
  have H0 := Lib.hid (And.intro hs0 (And.intro he0 hb0))
  clear hs0 hbs he0 hbe hb0
  gi_wp2_with fail
  refine ⟨trivial, rfl, ?_⟩
  refine callsIn_wide.2 ((KA.out _).mono ?_)
  rintro e w1 ⟨rfl, hb1⟩
  obtain ⟨hs0, he0, hb0⟩ := H0.out
  have H1 := Lib.hid (And.intro (hs0.below hb1) (And.intro (he0.below hb1) (bT2 hb0 hb1)))
  clear hs0 he0 hb0 hb1 H0
  by_cases hlen : ys.length ≤ 200
  · have hd : decide ((ys.length : Int) > 200) = false := decide_eq_false (by omega)
    have KN := Lib.hid (new_I cap q ys w1 (HY.out.same H1.out.2.2 (Nat.le_refl _)) (by omega))
    gi_wp2_with fail
    refine ⟨trivial, rfl, ?_⟩
    refine callsIn_wide.2 (KN.out.mono ?_)
    rintro e w2 ⟨hb2, b, sv, R, rfl, hown, hins⟩
    have hrl : R.length = ys.length := by have := hins.len; simpa using this
    have hE1 := H1.out.2.1.lt
    have hs2 := hb2.size
    have H2 := Lib.hid (And.intro (H1.out.1.below hb2) (And.intro (H1.out.2.1.below hb2) (And.intro (bT' H1.out.2.2 hb2 H1.out.2.2.size) (And.intro hown.bag (And.intro hins (show w.heap.size + 1 < w2.heap.size from by omega))))))
    have HIN := Lib.hid (HY.out.same H2.out.2.2.1 (Nat.le_refl _))
    clear hb2 hown hins KN H1 hE1 hs2
    gi_wp2
    gi_loopw [6, 7] (fun v6 v7 wr => ∃ j : Nat, v7 = .int .i64 j ∧ v6 = .int .i64 ((ys.take j).countP evn : Nat) ∧ j ≤ ys.length ∧ wr = w2) (fun _ v _ => ys.length - (intOf v).toNat)
    case atStart => exact ⟨0, rfl, rfl, Nat.zero_le _, rfl⟩
    case round =>
      obtain ⟨j, rfl, rfl, hj, rfl⟩ := hrel
      by_cases hlt : j < ys.length
      · have hjz : (j : Int) < (ys.length : Int) := by omega
        obtain ⟨gl, off, rfl, hcells⟩ := HIN.out.ints (by omega)
        have cj := hcells j hlt
        have HT := Lib.hid (show (ys.take (j + 1)).countP evn = (ys.take j).countP evn + if evn ys[j] = true then 1 else 0 from by
          rw [List.take_add_one, List.getElem?_eq_getElem hlt, List.countP_append]
          simp [List.countP_cons])
        have hle := List.countP_le_length (p := evn) (l := ys.take j)
        rw [List.length_take] at hle
        have hle2 : (ys.take j).countP evn ≤ 200 := by omega
        generalize (ys.take j).countP evn = c at *
        obtain ⟨yj, hyj⟩ : ∃ yj, ys[j] = yj := ⟨_, rfl⟩
        rw [hyj] at cj HT
        have KE := Lib.hid (even_c yj wr)
        clear hyj hle hcells
        gi_wp2_with fail
        refine ⟨trivial, rfl, ?_⟩
        refine callsIn_wide.2 (KE.out.mono ?_)
        rintro e W6 ⟨rfl, rfl⟩
        have hwc : IntKind.i64.wrap ((c : Int) + 1) = (c : Int) + 1 := by rw [IntKind.wrap_i64] <;> omega
        by_cases he : evn yj = true
        · rw [he]
          have HT2 := Lib.hid (HT.out.trans (by rw [if_pos he]))
          gi_wp2
          exact ⟨⟨j + 1, by go_num, by rw [HT2.out]; go_num, by omega, trivial⟩, by simp [intOf]; omega⟩
        · rw [show evn yj = false from by simpa using he]
          have HT2 := Lib.hid (HT.out.trans (by rw [if_neg he]))
          gi_wp2
          exact ⟨⟨j + 1, by go_num, by rw [HT2.out]; rfl, by omega, trivial⟩, by simp [intOf]; omega⟩
      · obtain rfl : j = ys.length := by omega
        rw [List.take_length]
        gi_wp2_with fail
        refine ⟨trivial, rfl, ?_⟩
        refine callsIn_wide.2 ((where_c _ _).mono ?_)
        rintro e w5 ⟨rfl, hw5⟩
        obtain ⟨hsb, heb, hb02, hbag, hins, hs02⟩ := H2.out
        have hn := Box.new wr (.int .i64 0) 3
        have hbn := bA' (Below.refl wr.heap.size wr) (Nat.le_refl _) (.cells #[.int .i64 0] 3)
        have hs4 : (wr.alloc (.cells #[.int .i64 0] 3)).heap.size = wr.heap.size + 1 := World.size_alloc _ _
        generalize wr.alloc (.cells #[.int .i64 0] 3) = w4 at *
        have hbv := Box.new w4 (.pointer (some ⟨b, 0, none⟩)) 25
        have hb4v := bA' (Below.refl w4.heap.size w4) (Nat.le_refl _) (.cells #[.pointer (some ⟨b, 0, none⟩)] 25)
        have hsv : (w4.alloc (.cells #[.pointer (some ⟨b, 0, none⟩)] 25)).heap.size = wr.heap.size + 1 + 1 := by rw [World.size_alloc, hs4]
        generalize w4.alloc (.cells #[.pointer (some ⟨b, 0, none⟩)] 25) = wv at *
        have hbs := Box.new wv (.func (.func 31) #[] #[]) 60
        have hbvs := bA' (Below.refl wv.heap.size wv) (Nat.le_refl _) (.cells #[.func (.func 31) #[] #[]] 60)
        have hs5 : (wv.alloc (.cells #[.func (.func 31) #[] #[]] 60)).heap.size = wr.heap.size + 1 + 1 + 1 := by rw [World.size_alloc, hsv]
        rw [← hw5] at hbs hbvs hs5
        rw [hs4]
        rw [hs4] at hbv
        rw [hsv] at hbs
        have hb25 : Below wr.heap.size wr w5 := bT2 (bT2 hbn hb4v) hbvs
        have hbt := hbag.lt
        have H5 := Lib.hid (And.intro (hsb.below hb25) (And.intro (heb.below hb25) (And.intro (bT' hb02 hb25 hb02.size) (And.intro ((hn.below hb4v).below hbvs) hs02))))
        have hN : (R.filter evn).length = ys.countP evn := ins_evens hins
        have hseq := where_seq (wr.heap.size + 1 + 1) (wr.heap.size + 1) b sv R (fun k o => o.isCells = true ∧ k ≠ wr.heap.size) w5 (by omega) (fun _ _ h => h.1) hbs ⟨rfl, by omega⟩ (hbv.below hbvs) (hbag.below hb25) (fun k o h1 h2 => ⟨h2, by omega⟩)
        obtain ⟨pl, hpl⟩ : ∃ pl : Nat → Int, ∀ k, (R.filter evn).getD k default = pl k := ⟨fun k => (R.filter evn).getD k default, fun _ => rfl⟩
        rw [show (fun k : Nat => (#[.int .i64 ((R.filter evn).getD k default)] : Array Value)) = fun k => #[.int .i64 (pl k)] from funext fun k => by rw [hpl]] at hseq
        have hev : ∀ k, k < (R.filter evn).length → evn (pl k) = true := fun k hk => by rw [← hpl]; exact evn_getD hk
        rw [hN] at hseq hev
        have hN2 : ys.countP evn ≤ 200 := Nat.le_trans List.countP_le_length (by omega)
        have HPL := Lib.hid hev
        have EG : ∀ args w, (callFunc 50 args).run Try.prog w = .ok (.enter 50 args) w := enters_of Try.func50 (by kernel_rfl) rfl
        generalize ys.countP evn = N at *
        clear hsb heb hb02 hbag hins hs02 hn hbn hbv hb4v hbs hbvs hb25 hbt hN hpl hev hw5 hs4 hsv H2
        gi_wp2_with fail
        apply range_lawF (gf := 50) (lb := #[.pointer (some ⟨wr.heap.size + 1 + 1, 0, none⟩), .pointer (some ⟨wr.heap.size + 1, 0, none⟩)]) rfl EG (fun bb o h => h.1) hseq (fun _ => rfl)
          (fun k W => Box W wr.heap.size (.int .i64 k) 3 ∧ Keeps2 wr.heap.size wr.heap.size w5 W ∧ (k = 0 ∨ k < stop)) (fun c k W => c = .exit 2 ∧ Box W wr.heap.size (.int .i64 k) 3 ∧ Keeps2 wr.heap.size wr.heap.size w5 W ∧ k = max stop 1) ?hI ?hIx ⟨H5.out.2.2.2.1, ⟨rfl, rfl, rfl, Nat.le_refl _, fun _ _ _ _ => rfl⟩, .inl rfl⟩ _ ?assign ?body ?done ?stop
        case assign =>
          rintro l k W K hj hk hsz hK
          have HJ := Lib.hid hj
          clear hj
          gi_wp2
          exact hK _ (Below.refl _ _) HJ.out
        case hI =>
          rintro k A C row ⟨h1, h3, h4⟩ hgr hr
          exact ⟨h1.own hgr hr (by omega), keeps_own h3 hgr hr (Nat.le_refl _), h4⟩
        case hIx =>
          rintro c k A C row ⟨h0, h1, h3, h4⟩ hgr hr
          exact ⟨h0, h1.own hgr hr (by omega), keeps_own h3 hgr hr (Nat.le_refl _), h4⟩
        case body =>
          rintro l k W ⟨h1, h3, h4⟩ hsz hk
          have cn := h1.cell
          have fn := h1.frozen
          have hS := (h3.block _ H5.out.1.lt (by have := H5.out.2.2.2.2; omega) (by have := H5.out.2.2.2.2; omega)).trans H5.out.1
          have cs := Box.cell hS
          have he := HPL.out k hk
          have KE := Lib.hid (even_c (pl k) W)
          have hwr : IntKind.i64.wrap ((k : Int) + 1) = (k : Int) + 1 := by rw [IntKind.wrap_i64] <;> omega
          have hws : IntKind.i64.wrap (stop : Int) = (stop : Int) := by rw [IntKind.wrap_i64] <;> omega
          have h1s := h1.set (.int .i64 ((k : Int) + 1))
          have cs2 := (Box.set_other (u := .int .i64 ((k : Int) + 1)) hS (show w.heap.size ≠ wr.heap.size from by have := H5.out.2.2.2.2; omega)).cell
          have HJ := Lib.hid (And.intro h1s (And.intro (keeps_set1 h3 (.int .i64 ((k : Int) + 1))) h4))
          rw [he] at KE
          clear h1 h3 hS h1s he
          gi_wp2_with fail
          refine ⟨trivial, rfl, ?_⟩
          refine (CallsIn.inRound l (callsIn_wide.2 KE.out)).mono ?_
          rintro e W6 ⟨rfl, rfl⟩
          by_cases hst : (stop : Int) ≤ (k : Int) + 1
          · have hd : decide ((k : Int) + 1 ≥ (stop : Int)) = true := decide_eq_true hst
            gi_wp2
            have h4 := HJ.out.2.2
            refine ⟨from_set _ _ (by omega), rfl, ?_, HJ.out.2.1, by omega⟩
            rw [show ((k + 1 : Nat) : Int) = (k : Int) + 1 from by omega]
            exact HJ.out.1
          · have hd : decide ((k : Int) + 1 ≥ (stop : Int)) = false := decide_eq_false hst
            gi_wp2
            refine ⟨from_set _ _ (by omega), kept_set _ _ (fun o h => h.2 rfl), ?_, HJ.out.2.1, .inr (by omega)⟩
            rw [show ((k + 1 : Nat) : Int) = (k : Int) + 1 from by omega]
            exact HJ.out.1
        case done =>
          rintro D W hD ⟨h1, h3, h4⟩ hdef
          have hs02 := H5.out.2.2.2.2
          have cn := h1.cell
          have hE : Box W (w.heap.size + 1) (.bool false) 4 := (h3.block _ H5.out.2.1.lt (by omega) (by omega)).trans H5.out.2.1
          have cE := hE.cell
          have fE := hE.frozen
          have hbW : Below w.heap.size w W := keeps_to_below h3 H5.out.2.2.1 (by omega) (by omega) (by omega)
          have HX := Lib.hid (And.intro (hE.set (.bool true)) (And.intro (show Below w.heap.size w (W.setCell ⟨w.heap.size + 1, 0, none⟩ (.bool true)) from below_set hbW (by omega) _) (show (W.setCell ⟨w.heap.size + 1, 0, none⟩ (.bool true)).heap[D]? = some (.deferred (some [])) from (heap_setCell_other _ ⟨w.heap.size + 1, 0, none⟩ D _ (by
            show D ≠ w.heap.size + 1
            omega)).trans hdef)))
          clear h1 h3 hE hbW hdef hseq EG
          have hzz : ((N : Int) == (N : Int)) = true := beq_self_eq_true _
          gi_wp2
          all_goals first
            | (rename_i x b h1 h2; simp [undef] at h1; done)
            | (refine ⟨by simp, .inl ⟨_, _, rfl, run_takeDeferred HX.out.2.2, ?_⟩⟩
               have h : Box ((W.setCell ⟨w.heap.size + 1, 0, none⟩ (.bool true)).putObj D (.deferred none)) (w.heap.size + 1) (.bool true) 4 := (World.putObj_heap_other (by omega)).trans HX.out.1
               have h := h.cell
               have hbe := HX.out.2.1
               refine ⟨.bool true, ?_, rfl, hbe.os, hbe.tape, hbe.output, by simpa using hbe.size, fun j hj => (World.putObj_heap_other (by omega)).trans (hbe.block j hj)⟩
               simp [results, Try.results6, go_sem, h])
        case stop =>
          rintro D c k W hD hk ⟨rfl, h1, h3, h4⟩ hdef
          have hs02 := H5.out.2.2.2.2
          have cn := h1.cell
          have hE : Box W (w.heap.size + 1) (.bool false) 4 := (h3.block _ H5.out.2.1.lt (by omega) (by omega)).trans H5.out.2.1
          have hS : Box W w.heap.size (.int .u8 (stop : Int)) 5 := (h3.block _ H5.out.1.lt (by omega) (by omega)).trans H5.out.1
          have cE := hE.cell
          have fE := hE.frozen
          have cs := hS.cell
          have hws : IntKind.i64.wrap (stop : Int) = (stop : Int) := by rw [IntKind.wrap_i64] <;> omega
          have hbW : Below w.heap.size w W := keeps_to_below h3 H5.out.2.2.1 (by omega) (by omega) (by omega)
          have HX := Lib.hid (And.intro (hE.set (.bool true)) (And.intro (show Below w.heap.size w (W.setCell ⟨w.heap.size + 1, 0, none⟩ (.bool true)) from below_set hbW (by omega) _) (show (W.setCell ⟨w.heap.size + 1, 0, none⟩ (.bool true)).heap[D]? = some (.deferred (some [])) from (heap_setCell_other _ ⟨w.heap.size + 1, 0, none⟩ D _ (by
            show D ≠ w.heap.size + 1
            omega)).trans hdef)))
          clear h1 h3 hE hS hbW hdef hseq EG
          by_cases hkN : k = N
          · subst hkN
            have hzz : ((k : Int) == (k : Int)) = true := beq_self_eq_true _
            gi_wp2
            all_goals first
              | (rename_i x b h1 h2; simp [undef] at h1; done)
              | (refine ⟨by simp, .inl ⟨_, _, rfl, run_takeDeferred HX.out.2.2, ?_⟩⟩
                 have h : Box ((W.setCell ⟨w.heap.size + 1, 0, none⟩ (.bool true)).putObj D (.deferred none)) (w.heap.size + 1) (.bool true) 4 := (World.putObj_heap_other (by omega)).trans HX.out.1
                 have h := h.cell
                 have hbe := HX.out.2.1
                 refine ⟨.bool true, ?_, rfl, hbe.os, hbe.tape, hbe.output, by simpa using hbe.size, fun j hj => (World.putObj_heap_other (by omega)).trans (hbe.block j hj)⟩
                 simp [results, Try.results6, go_sem, h])
          · have hz1 : ((k : Int) == (N : Int)) = false := beq_eq_false_iff_ne.2 (by omega)
            have hz2 : (k : Int) < (N : Int) := by omega
            have hz3 : ((max stop 1 : Nat) : Int) = max (stop : Int) 1 := by omega
            gi_wp2
            refine ⟨by simp, .inl ⟨_, _, rfl, run_takeDeferred HX.out.2.2, ?_⟩⟩
            have h : Box ((W.setCell ⟨w.heap.size + 1, 0, none⟩ (.bool true)).putObj D (.deferred none)) (w.heap.size + 1) (.bool true) 4 := (World.putObj_heap_other (by omega)).trans HX.out.1
            have h := h.cell
            have hbe := HX.out.2.1
            refine ⟨.bool true, ?_, rfl, hbe.os, hbe.tape, hbe.output, by simpa using hbe.size, fun j hj => (World.putObj_heap_other (by omega)).trans (hbe.block j hj)⟩
            simp [results, Try.results6, go_sem, h]
  · have hd : decide ((ys.length : Int) > 200) = true := decide_eq_true (by omega)
    gi_wp2_with fail
    refine ⟨trivial, rfl, ?_⟩
    refine callsIn_wide.2 ((KA.out _).mono ?_)
    rintro e w2 ⟨rfl, hb2⟩
    have hbx2 := H1.out.2.1.below hb2
    have c2 := hbx2.cell
    have f2 := hbx2.frozen
    have H2 := Lib.hid (And.intro (hbx2.set (.bool true)) (below_set (bT' H1.out.2.2 hb2 H1.out.2.2.size) (show w.heap.size ≤ w.heap.size + 1 by omega) (.bool true)))
    clear hb2 hbx2
    gi_wp2
    refine ⟨.bool true, ?_, rfl, H2.out.2⟩
    have h := H2.out.1.cell
    simp [results, Try.results6, go_sem, h]
end Go.Proofs.Ytfjipkkhjjpaiaa
