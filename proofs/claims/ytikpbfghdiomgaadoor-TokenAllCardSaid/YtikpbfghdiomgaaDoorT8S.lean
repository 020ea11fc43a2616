/-
  token's All over this seat's translation: what it hands out. Conditions: those that each theorem states.
-/
import Derived.Test.YtikpbfghdiomgaaDoorT8R
import Derived.Test.YtikpbfghdiomgaaDoorT8Q
import Derived.Test.YtikpbfghdiomgaaDoorT8I
namespace Go.Proofs.YtikpbfghdiomgaaDoor
open Go.RowKit Go.Shelf Go.Lib Go.Sort Tk
attribute [local go_sem] Oper.semAt_some

/-- What is safe: the text's box, and the variables that the words lean on. -/
def safe8 (Bv : Nat) (b : Nat) (o : Obj) : Prop := (b = Bv ∨ b = 0 ∨ b = 2) ∧ o.isCells = true
structure Ctx8 (Bv : Nat) (s : ByteArray) (V : World) : Prop where
  box : V.heap[Bv]? = some (.cells #[.string s] 9 (0, 0))
  env : Env8 V
theorem Ctx8.keep {Bv : Nat} {s : ByteArray} {A C : World} (h : Ctx8 Bv s A) (hb : Below A.heap.size A C) : Ctx8 Bv s C := ⟨(hb.block _ (Array.getElem?_eq_some_iff.1 h.box).1).trans h.box, h.env.keep hb⟩
theorem cell_obj {V : World} {b i : Nat} {v : Value} (h : V.cell? ⟨b, i, none⟩ = some v) : ∃ o, V.heap[b]? = some o ∧ o.isCells = true := by
  unfold World.cell? at h
  cases ho : V.heap[b]? with
  | none => rw [ho] at h; cases h
  | some o =>
    rw [ho] at h
    cases o <;> first | exact ⟨_, rfl, rfl⟩ | cases h
theorem Ctx8.kept {Bv : Nat} {s : ByteArray} {A C : World} (h : Ctx8 Bv s A) (k : Kept (safe8 Bv) A C) : Ctx8 Bv s C := by
  obtain ⟨hb, hm, ev, h2, h3⟩ := h
  obtain ⟨om, hom, hcm⟩ := cell_obj (hm 0 (by decide))
  obtain ⟨oe, hoe, hce⟩ := cell_obj h2
  have em := (k.same _ _ ⟨.inr (.inl rfl), hcm⟩ hom).trans hom.symm
  have ee := (k.same _ _ ⟨.inr (.inr rfl), hce⟩ hoe).trans hoe.symm
  exact ⟨k.same _ _ ⟨.inl rfl, rfl⟩ hb, fun i hi => (World.cell?_of_block (a := ⟨0, i, none⟩) em).trans (hm i hi), ev, (World.cell?_of_block (a := ⟨2, 0, none⟩) ee).trans h2, h3⟩
theorem Ctx8.cell {Bv : Nat} {s : ByteArray} {V : World} (h : Ctx8 Bv s V) : V.cell? ⟨Bv, 0, none⟩ = some (.string s) := by
  unfold World.cell?
  rw [h.box]
  rfl
/-- The pair that is handed out k-th. -/
def outX (s : ByteArray) (k : Nat) : Tk.W × Int := (outs (bs s)).getD k (⟨0, [], 0, 0⟩, 0)
theorem outX_at {s : ByteArray} {us : List Tk.W} {x : Tk.W × Int} {r : List (Tk.W × Int)} (h : outs (bs s) = (us.map fun u => (u, (0 : Int))) ++ x :: r) : outX s us.length = x ∧ us.length < (outs (bs s)).length := by
  unfold outX
  rw [h]
  refine ⟨?_, by simp⟩
  rw [List.getD_eq_getElem?_getD, List.getElem?_append_right (by simp), List.length_map, Nat.sub_self]
  rfl
theorem pall_c (s : ByteArray) (w : World) : Calls Tryd.prog 13 #[.string s] w fun e w' =>
    e = .returned (.func (.func 17) #[] #[.pointer (some ⟨w.heap.size, 0, none⟩)]) ∧ w' = w.alloc (.cells #[.string s] 9) := by
  go_enter Tryd.func13, Tryd.ntmps13
  go_wp2
  go_ret
  exact ⟨rfl, rfl⟩
theorem eg_pall : ∀ args w, (callFunc 17 args).run Tryd.prog w = .ok (.enter 17 args) w := enters_of Tryd.func17 (by kernel_rfl) rfl
/-- Whether more is to come. -/
def mOf : Value → Nat
  | .bool true => 1
  | _ => 0
/-- What the loop of All holds. -/
def AllI (s : ByteArray) (Bv N : Nat) (J Jx : Nat → World → Prop) (p : Nat) (m : Bool) (V : World) : Prop :=
  Ctx8 Bv s V ∧ ((m = true ∧ (∃ us, Go8 s us p ∧ J us.length V) ∧ ∀ h : p < s.size, isB s[p] = false ∧ s[p].toNat ≠ 35) ∨ (m = false ∧ (J N V ∨ ∃ k, k ≤ N ∧ Jx k V)))

set_option maxRecDepth 100000 in
set_option maxHeartbeats 16000000 in
theorem all_seq (Bv : Nat) (s : ByteArray) (w : World) (h : Ctx8 Bv s w) :
    SeqQ 17 #[.pointer (some ⟨Bv, 0, none⟩)] (outs (bs s)).length (fun k => #[tokV (outX s k).1, .int .i64 (outX s k).2]) (safe8 Bv) w := by
  intro l J Jx W hW hJ hJx hY h0
  have hc := h.keep hW
  have c0 := hc.cell
  have HC := Lib.hid hc
  have HY := Lib.hid hY
  have H0 := Lib.hid h0
  have HJ := Lib.hid (And.intro hJ hJx)
  obtain ⟨N, hN⟩ : ∃ N, (outs (bs s)).length = N := ⟨_, rfl⟩
  have HN := Lib.hid hN
  rw [hN] at HY ⊢
  clear hY h0 hc h hN hJ hJx hW
  refine callsIn_of_wp Tryd.func17 rfl trivial ?_ rfl
  simp only [Tryd.ntmps17, List.size_toArray, List.length_cons, List.length_nil, Nat.reduceAdd, Nat.reduceSub, Array.replicate_succ, Array.replicate_zero, List.push_toArray, List.append_toArray, List.nil_append, List.cons_append]
  by_cases hbig : s.size ≤ 16384
  · have d1 : decide ((s.size : Int) > 16384) = false := decide_eq_false (by omega)
    have d2 : decide (16384 < s.size) = false := decide_eq_false (by omega)
    gi_wp2_with fail
    refine ⟨trivial, rfl, ?_⟩
    refine callsIn_wide.2 ((skip_c s 0 (Nat.zero_le _) (by omega) _).mono ?_)
    rintro e w1 ⟨⟨p, rfl, hp, hnb⟩, rfl⟩
    have HP := Lib.hid (And.intro hp hnb)
    have hpf := hp.fit
    clear hp hnb c0
    gi_wp2
    gi_loopw [3, 4] (fun v3 v4 wr => ∃ (p : Nat) (m : Bool), v3 = .int .i64 (p : Int) ∧ v4 = .bool m ∧ p ≤ s.size ∧ Hid (AllI s Bv N J Jx p m wr)) (fun v3 v4 _ => (s.size - (RowKit.intOf v3).toNat) * 2 + mOf v4)
    case atStart => exact ⟨p, true, rfl, rfl, hpf, Lib.hid ⟨HC.out, .inl ⟨rfl, ⟨[], HP.out.1.go _ (Go8.start s), H0.out⟩, HP.out.2⟩⟩⟩
    case round =>
      clear HP hpf H0 HC
      obtain ⟨p, m, rfl, rfl, hp, HR⟩ := hrel
      cases m with
      | false =>
        gi_wp2
        go_end0
        obtain ⟨_, ⟨h, _⟩ | ⟨_, h⟩⟩ := HR.out
        · cases h
        · exact ⟨⟨_, rfl⟩, h⟩
      | true =>
        have HR2 := Lib.hid (show Ctx8 Bv s wr ∧ (∃ us, Go8 s us p ∧ J us.length wr) ∧ ∀ h : p < s.size, isB s[p] = false ∧ s[p].toNat ≠ 35 from by
          obtain ⟨hcx, ⟨_, h1, h2⟩ | ⟨h, _⟩⟩ := HR.out
          · exact ⟨hcx, h1, h2⟩
          · cases h)
        have b0 := HR2.out.1.cell
        have hpz : (p : Int) ≤ (s.size : Int) := by omega
        have hp0 : (0 : Int) ≤ (p : Int) := by omega
        clear HR
        by_cases hlt : p < s.size
        · obtain ⟨z, hz⟩ : ∃ z, s.extract p s.size = z := ⟨_, rfl⟩
          have hzb : bs z = (bs s).drop p := by rw [← hz]; exact bs_from s p
          have hzs : z.size = s.size - p := by rw [← hz]; exact ext_size s (Nat.le_refl _)
          have hwx : wordX (bs z) = Tk.word ((bs s).drop p) := by
            unfold wordX
            rw [if_neg (by rw [hzb, bs_drop s hlt]; exact List.cons_ne_nil _ _), hzb]
          have KW := Lib.hid (pword_c z (by omega) (by omega) wr HR2.out.1.env)
          unfold WordA at KW
          rw [hwx] at KW
          obtain ⟨us, hgo, hju⟩ := HR2.out.2.1
          obtain ⟨hnb, hn35⟩ := HR2.out.2.2 hlt
          by_cases hok : (Tk.word ((bs s).drop p)).1 = 0
          · obtain ⟨r, hr⟩ := outs_word hbig hgo hlt hnb hn35 hok
            obtain ⟨hx, hxl⟩ := outX_at hr
            rw [HN.out] at hxl
            have hwl := word_len hok
            have hk4 := (wok_pos (w := ⟨(Tk.word ((bs s).drop p)).2.1, (Tk.word ((bs s).drop p)).2.2.1, (Tk.word ((bs s).drop p)).2.2.2.1, p⟩) ⟨_, hok, rfl, rfl, rfl⟩).2
            rw [List.length_drop, bs_len] at hwl
            have hgo2 : ∀ a b c k, Tk.word ((bs s).drop p) = (0, a, b, c, k) → Go8 s (us ++ [⟨a, b, c, p⟩]) (p + k) := fun a b c k e => hgo.word hlt e
            obtain ⟨x0, a, b, c, k, hw⟩ : ∃ x0 a b c k, Tk.word ((bs s).drop p) = (x0, a, b, c, k) := ⟨_, _, _, _, _, rfl⟩
            rw [hw] at KW hok hx hwl hk4
            obtain rfl : x0 = 0 := hok
            have hgo3 := hgo2 a b c k hw
            simp only at KW hx hwl hk4
            have hq4 : ((a : Int) != 4) = true := by simpa using (show ¬ (a : Int) = 4 by simp only [ne_eq] at hk4; omega)
            have hpk : p + k ≤ s.size := by omega
            have hkp : 0 < k := hwl.1
            obtain ⟨P, hP⟩ : ∃ P, p + k = P := ⟨_, rfl⟩
            have hwr : IntKind.i64.wrap ((p : Int) + (k : Int)) = (P : Int) := by rw [IntKind.wrap_i64] <;> omega
            rw [hP] at hpk hgo3
            have HPK := Lib.hid hP
            have HX := Lib.hid (And.intro hx (And.intro hxl (And.intro hgo3 hju)))
            clear hP hgo2 hw hk4 hgo hgo3 hju hx hxl hr hwx hzb hzs hwl hnb hn35
            gi_wp2_with fail
            refine ⟨trivial, rfl, ?_⟩
            refine callsIn_wide.2 (KW.out.mono ?_)
            rintro e V ⟨u, k', rfl, _, hu, hb⟩
            obtain ⟨rfl, rfl⟩ := hu trivial
            obtain ⟨T, hT⟩ : ∃ T : ByteArray, (⟨b.toArray⟩ : ByteArray) = T := ⟨_, rfl⟩
            have hba : Below wr.heap.size wr (V.alloc (.cells #[.int .i64 (a : Int), .string T, .int .i64 (c : Int), .int .i64 (p : Int)] 28)) := hb.alloc hb.size _
            obtain ⟨fn, tm, asg, bd, hy, hR⟩ := HY.out us.length wr _ HX.out.2.2.2 hba HX.out.2.1
            try simp only at hy
            rw [HX.out.1] at hy
            unfold tokV at hy ⊢
            simp only [hT] at hy ⊢
            have HB := Lib.hid (And.intro hb hba)
            have HCV := Lib.hid (HR2.out.1.keep hba)
            have HT := Lib.hid hT
            have v0 := (HR2.out.1.keep hb).cell
            clear hT hb hba
            gi_wp2
            refine ⟨rfl, hR.mono ?_⟩
            rintro e W3 ⟨hres, hl⟩
            have h9 : W3.heap[V.heap.size]? = some (box8 (.int .i64 (a : Int)) (.string T) (.int .i64 (c : Int)) (.int .i64 (p : Int))) := hl.band _ _ HB.out.1.size (by simp) (World.alloc_heap_new V _) rfl
            obtain ⟨y0, y1, y2, y3, _, _, _, _⟩ := cells8 h9
            have HC3 := Lib.hid (HCV.out.kept hl.kept)
            have b3 := HC3.out.cell
            clear hl h9 hy hR b0 v0
            rcases hres with ⟨rfl, hj⟩ | ⟨rfl, hjx⟩
            · have HJ3 := Lib.hid hj
              clear hj
              gi_wp2_with fail
              refine ⟨trivial, rfl, ?_⟩
              refine callsIn_wide.2 ((skip_c s P hpk (by omega) _).mono ?_)
              rintro e w4 ⟨⟨q, rfl, hq, hqn⟩, rfl⟩
              have HQ := Lib.hid (And.intro hq hqn)
              have hqf := hq.fit
              have hql := hq.le
              clear hq hqn
              gi_wp2
              go_roundw
              case rel => exact ⟨q, true, rfl, rfl, hqf, Lib.hid ⟨HC3.out, .inl ⟨rfl, ⟨_, HQ.out.1.go _ HX.out.2.2.1, by rw [List.length_append]; exact HJ3.out⟩, HQ.out.2⟩⟩⟩
              case measure => have := HPK.out; simp [RowKit.intOf, mOf]; omega
            · have HJ3 := Lib.hid hjx
              clear hjx
              gi_wp2_with fail
              refine ⟨trivial, rfl, ?_⟩
              refine callsIn_wide.2 ((skip_c s P hpk (by omega) _).mono ?_)
              rintro e w4 ⟨⟨q, rfl, hq, hqn⟩, rfl⟩
              have hqf := hq.fit
              have hql := hq.le
              clear hq hqn
              gi_wp2
              go_roundw
              case rel => exact ⟨q, false, rfl, rfl, hqf, Lib.hid ⟨HC3.out, .inr ⟨rfl, .inr ⟨us.length + 1, HX.out.2.1, HJ3.out⟩⟩⟩⟩
              case measure => have := HPK.out; simp [RowKit.intOf, mOf]; omega
          · have ho := outs_err hbig hgo hlt hnb hn35 hok
            obtain ⟨hx, hxl⟩ := outX_at ho
            rw [HN.out] at hxl
            have hNl : N = us.length + 1 := by rw [← HN.out, ho]; simp
            obtain ⟨E, hE⟩ : ∃ E : Int, (Tk.word ((bs s).drop p)).1 = E := ⟨_, rfl⟩
            rw [hE] at KW hok hx
            have hne : (E != 0) = true := by simpa using hok
            have HX := Lib.hid (And.intro hx (And.intro hxl (And.intro hNl hju)))
            clear ho hx hxl hNl hju hE hgo hwx hzb hzs hnb hn35
            gi_wp2_with fail
            refine ⟨trivial, rfl, ?_⟩
            refine callsIn_wide.2 (KW.out.mono ?_)
            rintro e V ⟨⟨ua, ub, uc, up⟩, k', rfl, hu0, _, hb⟩
            obtain rfl : up = 0 := hu0
            obtain ⟨T, hT⟩ : ∃ T : ByteArray, (⟨ub.toArray⟩ : ByteArray) = T := ⟨_, rfl⟩
            have hba : Below wr.heap.size wr (V.alloc (.cells #[.int .i64 (ua : Int), .string T, .int .i64 (uc : Int), .int .i64 0] 28)) := hb.alloc hb.size _
            obtain ⟨fn, tm, asg, bd, hy, hR⟩ := HY.out us.length wr _ HX.out.2.2.2 hba HX.out.2.1
            try simp only at hy
            rw [HX.out.1] at hy
            rw [show tokV ⟨0, [], 0, p⟩ = .agg #[.int .i64 0, .string ⟨#[]⟩, .int .i64 0, .int .i64 (p : Int)] from rfl] at hy
            unfold tokV
            simp only [hT]
            clear hT hb hba
            gi_wp2
            refine ⟨rfl, hR.mono ?_⟩
            rintro e W3 ⟨hres, hl⟩
            clear hl hy hR b0
            have HE := Lib.hid (show J N W3 ∨ ∃ k, k ≤ N ∧ Jx k W3 from by
              rcases hres with ⟨_, hj⟩ | ⟨_, hjx⟩
              · left; rw [HX.out.2.2.1]; exact hj
              · exact .inr ⟨us.length + 1, HX.out.2.1, hjx⟩)
            rcases hres with ⟨rfl, _⟩ | ⟨rfl, _⟩
            · gi_wp2
              refine bodyPost_ret (results_none rfl _ _ _) rfl ?_
              exact ⟨⟨_, rfl⟩, HE.out⟩
            · gi_wp2
              refine bodyPost_ret (results_none rfl _ _ _) rfl ?_
              exact ⟨⟨_, rfl⟩, HE.out⟩
        · obtain rfl : p = s.size := by omega
          obtain ⟨us, hgo, hju⟩ := HR2.out.2.1
          have ho := outs_end hbig hgo (Nat.le_refl _)
          obtain ⟨hx, hxl⟩ := outX_at ho
          rw [HN.out] at hxl
          have hNl : N = us.length + 1 := by rw [← HN.out, ho]; simp
          have HX := Lib.hid (And.intro hx (And.intro hxl (And.intro hNl hju)))
          have hwr : IntKind.i64.wrap ((s.size : Int) + 0) = (s.size : Int) := by rw [IntKind.wrap_i64] <;> omega
          have hwr2 : IntKind.i64.wrap (s.size : Int) = (s.size : Int) := by rw [IntKind.wrap_i64] <;> omega
          have KW := Lib.hid (show Calls Tryd.prog 19 #[.string ByteArray.empty] wr fun e w' => e = .returned (.tuple #[.agg #[.int .i64 4, .string ⟨#[]⟩, .int .i64 0, .int .i64 0], .int .i64 0, .int .i64 0]) ∧ Below wr.heap.size wr w' from by rw [show ByteArray.empty = ⟨#[]⟩ from rfl]; exact pword0_c wr)
          clear ho hx hxl hNl hju hgo
          gi_wp2_with fail
          refine ⟨trivial, rfl, ?_⟩
          refine callsIn_wide.2 (KW.out.mono ?_)
          rintro e V ⟨rfl, hb⟩
          have hba : Below wr.heap.size wr (V.alloc (.cells #[.int .i64 4, .string ⟨#[]⟩, .int .i64 0, .int .i64 (s.size : Int)] 28)) := hb.alloc hb.size _
          obtain ⟨fn, tm, asg, bd, hy, hR⟩ := HY.out us.length wr _ HX.out.2.2.2 hba HX.out.2.1
          try simp only at hy
          rw [HX.out.1] at hy
          have HB := Lib.hid (And.intro hb hba)
          have HCV := Lib.hid (HR2.out.1.keep hba)
          have v0 := (HR2.out.1.keep hb).cell
          rw [show tokV ⟨4, [], 0, s.size⟩ = .agg #[.int .i64 4, .string ⟨#[]⟩, .int .i64 0, .int .i64 (s.size : Int)] from rfl] at hy
          clear hb hba
          gi_wp2
          refine ⟨rfl, hR.mono ?_⟩
          rintro e W3 ⟨hres, hl⟩
          have h9 : W3.heap[V.heap.size]? = some (box8 (.int .i64 4) (.string ⟨#[]⟩) (.int .i64 0) (.int .i64 (s.size : Int))) := hl.band _ _ HB.out.1.size (by simp) (World.alloc_heap_new V _) rfl
          obtain ⟨y0, y1, y2, y3, _, _, _, _⟩ := cells8 h9
          have HC3 := Lib.hid (HCV.out.kept hl.kept)
          have b3 := HC3.out.cell
          have HE := Lib.hid (show J N W3 ∨ ∃ k, k ≤ N ∧ Jx k W3 from by
            rcases hres with ⟨_, hj⟩ | ⟨_, hjx⟩
            · left; rw [HX.out.2.2.1]; exact hj
            · exact .inr ⟨us.length + 1, HX.out.2.1, hjx⟩)
          clear hl h9 hy hR b0 v0
          rcases hres with ⟨rfl, _⟩ | ⟨rfl, _⟩
          · gi_wp2_with fail
            refine ⟨trivial, rfl, ?_⟩
            refine callsIn_wide.2 ((skip_c s s.size (Nat.le_refl _) (by omega) _).mono ?_)
            rintro e w4 ⟨⟨q, rfl, hq, hqn⟩, rfl⟩
            have hqf := hq.fit
            have hql := hq.le
            clear hq hqn
            gi_wp2
            go_roundw
            case rel => exact ⟨q, false, rfl, rfl, hqf, Lib.hid ⟨HC3.out, .inr ⟨rfl, HE.out⟩⟩⟩
            case measure => simp [RowKit.intOf, mOf]; omega
          · gi_wp2_with fail
            refine ⟨trivial, rfl, ?_⟩
            refine callsIn_wide.2 ((skip_c s s.size (Nat.le_refl _) (by omega) _).mono ?_)
            rintro e w4 ⟨⟨q, rfl, hq, hqn⟩, rfl⟩
            have hqf := hq.fit
            have hql := hq.le
            clear hq hqn
            gi_wp2
            go_roundw
            case rel => exact ⟨q, false, rfl, rfl, hqf, Lib.hid ⟨HC3.out, .inr ⟨rfl, HE.out⟩⟩⟩
            case measure => simp [RowKit.intOf, mOf]; omega
  · have d1 : decide ((s.size : Int) > 16384) = true := decide_eq_true (by omega)
    have d2 : decide (16384 < s.size) = true := decide_eq_true (by omega)
    have ho := outs_long (s := s) (by omega)
    obtain ⟨hx, hxl⟩ := outX_at (us := []) ho
    have hN1 : N = 1 := by rw [← HN.out, ho]; rfl
    subst hN1
    obtain ⟨fn, tm, asg, bd, hy, hR⟩ := HY.out 0 W W H0.out (Below.refl _ _) (Nat.succ_pos _)
    try simp only at hy
    rw [show outX s 0 = _ from hx] at hy
    rw [show tokV ⟨0, [], 0, 0⟩ = .agg #[.int .i64 0, .string ⟨#[]⟩, .int .i64 0, .int .i64 0] from rfl] at hy
    gi_wp2
    refine ⟨rfl, hR.mono ?_⟩
    rintro e W3 ⟨hres, hl⟩
    have HE := Lib.hid (show J 1 W3 ∨ ∃ k, k ≤ 1 ∧ Jx k W3 from by
      rcases hres with ⟨_, hj⟩ | ⟨_, hjx⟩
      · exact .inl hj
      · exact .inr ⟨1, Nat.le_refl _, hjx⟩)
    clear hl hy hR c0
    rcases hres with ⟨rfl, _⟩ | ⟨rfl, _⟩
    · gi_wp2
      refine bodyPost_ret (results_none rfl _ _ _) rfl ?_
      exact ⟨⟨_, rfl⟩, HE.out⟩
    · gi_wp2
      refine bodyPost_ret (results_none rfl _ _ _) rfl ?_
      exact ⟨⟨_, rfl⟩, HE.out⟩
end Go.Proofs.YtikpbfghdiomgaaDoor
