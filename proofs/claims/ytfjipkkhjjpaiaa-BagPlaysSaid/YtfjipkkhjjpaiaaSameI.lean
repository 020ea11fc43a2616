/-
  bag's Same at ints over this seat's translation. Conditions: those that each theorem states.
-/
import Derived.Test.YtfjipkkhjjpaiaaMergeI
namespace Go.Proofs.Ytfjipkkhjjpaiaa
open Go.RowKit Go.Shelf Go.Lib Go.Sort St

theorem cmpI_zero (x y : Int) : (cmpI x y == 0) = decide (x = y) := by
  unfold cmpI
  by_cases h : x < y
  · rw [if_pos h, decide_eq_false (by omega)]; rfl
  · by_cases h2 : x > y
    · rw [if_neg h, if_pos h2, decide_eq_false (by omega)]; rfl
    · rw [if_neg h, if_neg h2, decide_eq_true (by omega)]; rfl
theorem grow_below {W w' : World} (h : ∃ q os', w' = grow (W.drewN q) os') : Below W.heap.size W w' := by
  obtain ⟨q, os', rfl⟩ := h
  exact below_grown_sl _ _ _ _ (Nat.le_refl _)

set_option maxHeartbeats 4000000 in
set_option maxRecDepth 1000000 in
theorem sameF_I (b B1 : Nat) (x y : Int) (W : World) (h1 : W.cell? ⟨B1, 0, none⟩ = some (.pointer (some ⟨b, 0, none⟩))) (h3 : W.cell? ⟨b, 0, none⟩ = some (.func (.func 11) #[] #[])) :
    Calls Try.prog 37 (#[.int .i64 x, .int .i64 y] ++ #[.pointer (some ⟨B1, 0, none⟩)]) W fun e w' => e = .returned (.bool (decide (x = y))) ∧ Below W.heap.size W w' := by
  have eg : ∀ args w, (callFunc 11 args).run Try.prog w = .ok (.enter 11 args) w := enters_of Try.func11 (by kernel_rfl) rfl
  have K := Lib.hid fun (w : World) => order_g x y w
  have HZ := Lib.hid (cmpI_zero x y)
  simp only [List.append_toArray, List.cons_append, List.nil_append]
  go_enter Try.func37, Try.ntmps37
  go_wp2_with fail
  refine (K.out _).mono ?_
  rintro e w1 ⟨rfl, hg⟩
  have HG := Lib.hid (grow_below hg)
  clear hg
  go_wp2
  go_ret
  exact ⟨by rw [← HZ.out]; rfl, HG.out⟩

/-- Are they level, place by place? -/
def levels_I (xs ys : List Int) : Bool := decide (xs.map (fun x : Int => x) = ys.map (fun x : Int => x))
theorem lev_I {xs ys : List Int} {k : Nat} (h1 : k < xs.length) (h2 : k < ys.length) (h : (xs.take k).map (fun x : Int => x) = (ys.take k).map (fun x : Int => x)) : ((fun x : Int => x) xs[k] = (fun x : Int => x) ys[k] → (xs.take (k + 1)).map (fun x : Int => x) = (ys.take (k + 1)).map (fun x : Int => x)) ∧ (¬ (fun x : Int => x) xs[k] = (fun x : Int => x) ys[k] → levels_I xs ys = false) := by
  refine ⟨fun e => ?_, fun e => decide_eq_false fun e2 => e ?_⟩
  · rw [List.take_add_one, List.take_add_one, List.map_append, List.map_append, h, List.getElem?_eq_getElem h1, List.getElem?_eq_getElem h2]
    simp only [Option.toList, List.map_cons, List.map_nil]
    exact congrArg (fun v => (ys.take k).map (fun x : Int => x) ++ [v]) e
  · have h3 : (xs.map (fun x : Int => x))[k]? = (ys.map (fun x : Int => x))[k]? := by rw [e2]
    rw [List.getElem?_map, List.getElem?_map, List.getElem?_eq_getElem h1, List.getElem?_eq_getElem h2] at h3
    exact Option.some.inj h3

set_option maxHeartbeats 8000000 in
set_option maxRecDepth 100000 in
theorem equal_I (b B1 : Nat) (pa pb : Option Addr) (ca cb : Nat) (xs ys : List Int) (W : World) (h1 : W.cell? ⟨B1, 0, none⟩ = some (.pointer (some ⟨b, 0, none⟩))) (h3 : W.cell? ⟨b, 0, none⟩ = some (.func (.func 11) #[] #[]))
    (hx : ∀ i (hi : i < xs.length), ∃ g, pa = some ⟨g, 0, none⟩ ∧ W.cell? ⟨g, i, none⟩ = some (.int .i64 xs[i])) (hy : ∀ i (hi : i < ys.length), ∃ g, pb = some ⟨g, 0, none⟩ ∧ W.cell? ⟨g, i, none⟩ = some (.int .i64 ys[i])) (hn : xs.length ≤ 1000000) :
    Calls Try.prog 36 #[.slice pa xs.length ca, .slice pb ys.length cb, .func (.func 37) #[] #[.pointer (some ⟨B1, 0, none⟩)]] W fun e w' => e = .returned (.bool (levels_I xs ys)) ∧ Below W.heap.size W w' := by
  have mixed : Try.prog.follows .mixedOrders = true := by kernel_rfl
  have eg : ∀ args w, (callFunc 37 args).run Try.prog w = .ok (.enter 37 args) w := enters_of Try.func37 (by kernel_rfl) rfl
  have HX := Lib.hid hx
  have HY := Lib.hid hy
  have KF := Lib.hid fun (x y : Int) (V : World) (hV : Below W.heap.size W V) => sameF_I b B1 x y V (kc' hV h1) (kc' hV h3)
  clear hx hy h1 h3
  go_enter Try.func36, Try.ntmps36
  by_cases hl : xs.length = ys.length
  · have HL := Lib.hid hl
    have e1 : ((xs.length : Int) != (ys.length : Int)) = false := by simp [hl]
    have e2 : (xs.length != ys.length) = false := by simp [hl]
    clear hl
    go_wp2
    go_loopw [17] (fun v wr => ∃ k : Nat, v = .int .i64 k ∧ k ≤ xs.length ∧ Below W.heap.size W wr ∧ Hid ((xs.take k).map (fun x : Int => x) = (ys.take k).map (fun x : Int => x))) (fun v _ => xs.length - (intOf v).toNat)
    case atStart => exact ⟨0, rfl, Nat.zero_le _, Below.refl _ _, rfl⟩
    case round =>
      obtain ⟨k, rfl, hk, hb, HT⟩ := hrel
      by_cases hlt : k < xs.length
      · have hkz : (k : Int) < (xs.length : Int) := by omega
        have hlt2 : k < ys.length := by have := HL.out; omega
        have hkz2 : (k : Int) < (ys.length : Int) := by omega
        obtain ⟨ga, rfl, a0⟩ := HX.out k hlt
        obtain ⟨gb, rfl, b0⟩ := HY.out k hlt2
        have a0 := kc' hb a0
        have b0 := kc' hb b0
        skip
        have HB := Lib.hid hb
        have HE := Lib.hid (lev_I hlt hlt2 HT.out)
        generalize xs[k] = xa at *
        generalize ys[k] = ya at *
        clear hb
        go_wp2_with fail
        refine (KF.out xa ya _ ?bl).mono ?_
        case bl => first | exact HB.out | exact bA' (bA' HB.out HB.out.size _) (by simp; have := HB.out.size; omega) _
        rintro e w2 ⟨rfl, hb2⟩
        have HB2 := Lib.hid (show Below W.heap.size W w2 from bT' (by first | exact HB.out | exact bA' (bA' HB.out HB.out.size _) (by simp; have := HB.out.size; omega) _) hb2 (by first | exact HB.out.size | (have := HB.out.size; simp; omega)))
        clear hb2
        by_cases h : xa = ya
        · have hd : decide (xa = ya) = true := decide_eq_true h
          have HT2 := Lib.hid (HE.out.1 h)
          clear h
          go_wp2
          go_roundw
          case rel => exact ⟨k + 1, by go_num, by omega, HB2.out, HT2⟩
          case measure => simp [intOf]; omega
        · have hd : decide (xa = ya) = false := decide_eq_false h
          have HT2 := Lib.hid (HE.out.2 h)
          clear h
          go_wp2
          go_ret
          exact ⟨by rw [HT2.out]; rfl, HB2.out⟩
      · have heq : levels_I xs ys = true := decide_eq_true (by
          have h := HT.out
          rwa [List.take_of_length_le (by omega), List.take_of_length_le (by have := HL.out; omega)] at h)
        have HB := Lib.hid hb
        clear hb
        go_wp2
        go_ret
        exact ⟨by rw [heq]; rfl, HB.out⟩
  · have e1 : ((xs.length : Int) != (ys.length : Int)) = true := by simp; omega
    have e2 : (xs.length != ys.length) = true := by simpa using hl
    have hne : levels_I xs ys = false := decide_eq_false fun e => hl (by have := congrArg List.length e; simpa using this)
    rw [hne]
    go_wp2
    go_ret
    exact ⟨rfl, Below.refl _ _⟩

theorem BagSI.at {W : World} {b : Nat} {p : Option Addr} {n cap : Nat} {xs : List Int} (h : BagSI W b (.slice p n cap) xs) : ∀ i (hi : i < xs.length), ∃ g, p = some ⟨g, 0, none⟩ ∧ W.cell? ⟨g, i, none⟩ = some (.int .i64 xs[i]) := by
  have hrow := h.row
  rcases id h.row.2 with ⟨_, e⟩ | ⟨g, cap', cur, e, _⟩
  · exact fun i hi => by omega
  · cases e
    intro i hi
    refine ⟨g, rfl, ?_⟩
    have h1 := flat_get cI_len xs i 0 hi (by omega)
    rw [Nat.mul_one, Nat.add_zero] at h1
    rw [hrow.cellAt i (by omega), h1]
    rfl

set_option maxHeartbeats 8000000 in
set_option maxRecDepth 100000 in
theorem same_I (ba bb : Nat) (sva svb : Value) (xs ys : List Int) (w : World) (ha : BagSI w ba sva xs) (hb : BagSI w bb svb ys) (hn : xs.length ≤ 1000000) :
    Calls Try.prog 12 #[.pointer (some ⟨ba, 0, none⟩), .pointer (some ⟨bb, 0, none⟩)] w fun e w' => e = .returned (.bool (levels_I xs ys)) ∧ Below w.heap.size w w' := by
  obtain ⟨pa, ca, rfl, _⟩ := ha.slice
  obtain ⟨pb, cb, rfl, _⟩ := hb.slice
  have WB : Below w.heap.size w (w.alloc (.cells #[.pointer (some ⟨ba, 0, none⟩)] 25)) := bA' (Below.refl _ _) (Nat.le_refl _) _
  have q0 : (w.alloc (.cells #[.pointer (some ⟨ba, 0, none⟩)] 25)).cell? ⟨w.heap.size, 0, none⟩ = some (.pointer (some ⟨ba, 0, none⟩)) := by go_simp
  obtain ⟨a0, a1, _⟩ := cell_two ha.box
  obtain ⟨_, b1, _⟩ := cell_two hb.box
  have a1 := kc' WB a1
  have b1 := kc' WB b1
  have a0 := kc' WB a0
  have KE := Lib.hid fun (V : World) (hV : Below w.heap.size w V) (h0 : V.cell? ⟨w.heap.size, 0, none⟩ = some (.pointer (some ⟨ba, 0, none⟩))) => equal_I ba w.heap.size pa pb ca cb xs ys V h0 (cell_two (ha.below hV).box).1 (ha.below hV).at (hb.below hV).at hn
  clear ha hb
  go_enter Try.func12, Try.ntmps12
  go_wp2_with fail
  generalize w.alloc (.cells #[.pointer (some ⟨ba, 0, none⟩)] 25) = W1 at *
  go_region_held3 (fun w' => w'.cell? ⟨w.heap.size, 0, none⟩ = some (.pointer (some ⟨ba, 0, none⟩)) ∧ w'.cell? ⟨ba, 1, none⟩ = some (.slice pa xs.length ca) ∧ w'.cell? ⟨bb, 1, none⟩ = some (.slice pb ys.length cb) ∧ Below w.heap.size w w')
    (first | exact ⟨q0, a1, b1, Below.drew WB⟩ | (go_split_ands; exact ⟨kc' hbn (by assumption), kc' hbn (by assumption), kc' hbn (by assumption), bT2 (by assumption) hbn⟩) | go_keep)
    (first
      | (go_at_call 36; refine (KE.out _ (by repeat (first | with_reducible assumption | with_reducible refine Below.drew ?_)) (by assumption)).mono ?_; rintro e w8 ⟨rfl, hbn⟩))
  all_goals go_split_ands
  all_goals
    have HB8 := Lib.hid (show Below w.heap.size w w8 by assumption)
    clear hbn a0 a1 b1 KE WB
    go_wp2
    go_ret
    exact ⟨rfl, HB8.out⟩
set_option maxHeartbeats 1000000 in
set_option maxRecDepth 100000 in
theorem sameNil_I (w : World) : Calls Try.prog 12 #[.pointer none, .pointer none] w fun e w' => e = .returned (.bool true) ∧ Below w.heap.size w w' := by
  have HB := Lib.hid (show Below w.heap.size w (w.alloc (.cells #[.pointer none] 25)) from bA' (Below.refl _ _) (Nat.le_refl _) _)
  go_enter Try.func12, Try.ntmps12
  go_wp2
  go_ret
  exact ⟨rfl, HB.out⟩
set_option maxHeartbeats 1000000 in
set_option maxRecDepth 100000 in
theorem sameNilA_I (a : Addr) (w : World) : Calls Try.prog 12 #[.pointer none, .pointer (some a)] w fun e w' => e = .returned (.bool false) ∧ Below w.heap.size w w' := by
  have HB := Lib.hid (show Below w.heap.size w (w.alloc (.cells #[.pointer none] 25)) from bA' (Below.refl _ _) (Nat.le_refl _) _)
  have hne : ∀ w : World, (binOp BinOp.eql 25 (.pointer none) (.pointer (some a))).run Try.prog w = .ok (.bool false) w := fun _ => by rfl
  go_enter Try.func12, Try.ntmps12
  go_wp2
  go_ret
  exact ⟨rfl, HB.out⟩
set_option maxHeartbeats 1000000 in
set_option maxRecDepth 100000 in
theorem sameNilB_I (a : Addr) (w : World) : Calls Try.prog 12 #[.pointer (some a), .pointer none] w fun e w' => e = .returned (.bool false) ∧ Below w.heap.size w w' := by
  have HB := Lib.hid (show Below w.heap.size w (w.alloc (.cells #[.pointer (some a)] 25)) from bA' (Below.refl _ _) (Nat.le_refl _) _)
  go_enter Try.func12, Try.ntmps12
  go_wp2
  go_ret
  exact ⟨rfl, HB.out⟩
end Go.Proofs.Ytfjipkkhjjpaiaa
