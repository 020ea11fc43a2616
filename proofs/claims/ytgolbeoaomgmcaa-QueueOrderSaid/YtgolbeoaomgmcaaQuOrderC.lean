/-
  The law QueueOrder over this seat's translation: items go in the order in which they came, each once. Conditions: those that each theorem states.
-/
import Derived.Test.YtgolbeoaomgmcaaQuG
import Derived.Test.YtgolbeoaomgmcaaQuFrame
namespace Go.Proofs.Ytgolbeoaomgmcaa
open Go.RowKit Go.Shelf Go.Lib Go.Sort Qu

/-- The numbers from one on. -/
def seg (b n : Nat) : List Int := (List.range' b n).map fun (j : Nat) => (j : Int)
theorem seg_len (b n : Nat) : (seg b n).length = n := by simp [seg]
theorem seg_push (b n : Nat) : seg b n ++ [((b + n : Nat) : Int)] = seg b (n + 1) := by
  unfold seg
  rw [List.range'_1_concat, List.map_append]
  rfl
theorem seg_pop (b n : Nat) : seg b (n + 1) = (b : Int) :: seg (b + 1) n := by
  unfold seg
  rw [List.range'_succ]
  rfl
/-- Between two calls. -/
structure OrdI (w : World) (q k a b : Nat) (p : Option Addr) (wr : World) : Prop where
  below : Below w.heap.size w wr
  own : Own w.heap.size wr q p k (seg b (a - b))

set_option maxHeartbeats 16000000 in
set_option maxRecDepth 1000000 in
theorem order_c (room : Int) (q0 : Option Addr) (cap : Nat) (ys : List Ac) (w : World) (hy : InList cA w q0 ys) (hyb : ∀ y ∈ ys, 0 ≤ y.1 ∧ y.1 ≤ 255 ∧ W64 y.2) :
    Calls Try.prog 3 #[.int .i64 room, .slice q0 ys.length cap] w fun e w' => e = .returned (.bool true) ∧ Below w.heap.size w w' := by
  have KA := Lib.hid fun (W : World) => awake_c W
  have HY := Lib.hid (And.intro hy hyb)
  clear hy hyb
  go_enter Try.func3, Try.ntmps3
  go_wp2_with fail
  refine (KA.out _).mono ?_
  rintro e w1 ⟨rfl, hb1⟩
  have HB1 := Lib.hid hb1
  clear hb1
  by_cases hlen : ys.length ≤ 300
  · have hd : decide ((ys.length : Int) > 300) = false := decide_eq_false (by omega)
    by_cases hk : 1 ≤ room ∧ room ≤ 1048576
    · have KN := Lib.hid (new_o room hk w1)
      go_wp2_with fail
      refine KN.out.mono ?_
      rintro e w2 ⟨q, rfl, hown, hb2⟩
      have hbw2 := bT' HB1.out hb2 HB1.out.size
      have H2 := Lib.hid (show OrdI w q room.toNat 0 0 none w2 from ⟨hbw2, hown.que, Nat.le_trans HB1.out.size hown.b1, fun g e => by cases e⟩)
      clear hb2 hbw2 hown KN HB1
      go_wp2
      go_loopw [7, 8, 9] (fun av bv iv wr => ∃ (a b i : Nat) (p : Option Addr), av = .int .i64 a ∧ bv = .int .i64 b ∧ iv = .int .i64 i ∧ i ≤ ys.length ∧ b ≤ a ∧ a ≤ i ∧ Hid (OrdI w q room.toNat a b p wr)) (fun _ _ v _ => ys.length - (intOf v).toNat)
      case atStart => exact ⟨0, 0, 0, none, rfl, rfl, rfl, Nat.zero_le _, Nat.le_refl _, Nat.le_refl _, H2⟩
      case round =>
        clear H2
        obtain ⟨a, b, i, p, rfl, rfl, rfl, hi, hba, hai, HP⟩ := hrel
        by_cases hlt : i < ys.length
        · have hiz : (i : Int) < (ys.length : Int) := by omega
          have hp := HP.out
          obtain ⟨gl, off, rfl, hcells⟩ := (HY.out.1.below hp.below).acts (by omega)
          obtain ⟨c0, c1⟩ := hcells i hlt
          have hdb := HY.out.2 ys[i] (List.getElem_mem hlt)
          obtain ⟨⟨d, xa⟩, hd0⟩ : ∃ y : Ac, ys[i] = y := ⟨_, rfl⟩
          rw [hd0] at c0 c1 hdb
          dsimp only at c0 c1 hdb
          have hr0 : Int.tmod d 5 = d % 5 := Int.tmod_eq_emod_of_nonneg hdb.1
          obtain ⟨r, hr⟩ : ∃ r, d % 5 = r := ⟨_, rfl⟩
          have hr1 : Int.tmod d 5 = r := by rw [hr0, hr]
          have hw8 : IntKind.u8.wrap r = r := by
            have : r = 0 ∨ r = 1 ∨ r = 2 ∨ r = 3 ∨ r = 4 := by omega
            rcases this with rfl | rfl | rfl | rfl | rfl <;> decide
          have hri : IntKind.i64.wrap ((i : Int) + 1) = ((i + 1 : Nat) : Int) := by rw [IntKind.wrap_i64]; omega
          obtain ⟨n, hn⟩ : ∃ n, a - b = n := ⟨_, rfl⟩
          have hsz := hp.below.size
          have ho := hp.own
          rw [hn] at ho
          have hbox := ho.box
          rw [seg_len] at hbox
          by_cases h2 : r < 2
          · have h2a : decide (r < 2) = true := decide_eq_true h2
            by_cases hf : n < room.toNat
            · have KS := push_o (a : Int) ho hsz
              have hpr : pushR room.toNat (seg b n) = 0 := by unfold pushR; rw [seg_len, if_pos hf]
              have hpt : pushT room.toNat (seg b n) (a : Int) = seg b (n + 1) := by unfold pushT; rw [seg_len, if_pos hf, ← seg_push, show b + n = a from by omega]
              rw [hpr, hpt] at KS
              have hra : IntKind.i64.wrap ((a : Int) + 1) = ((a + 1 : Nat) : Int) := by rw [IntKind.wrap_i64]; omega
              clear hd0 hcells hp hr0 hdb hr ho hbox hsz hf hpr hpt
              go_wp2_with fail
              refine KS.mono ?_
              rintro e w5 ⟨rfl, p5, ho, _, _, hl⟩
              have HS := Lib.hid (show OrdI w q room.toNat (a + 1) b p5 w5 from ⟨HP.out.below.trans hl, by rw [show a + 1 - b = n + 1 from by omega]; exact ho⟩)
              clear ho hl KS hn
              go_wp2
              exact ⟨⟨a + 1, b, i + 1, p5, rfl, rfl, rfl, by omega, by omega, by omega, HS⟩, by simp [intOf]; omega⟩
            · have KS := push_o (a : Int) ho hsz
              have hpr : pushR room.toNat (seg b n) = 14 := by unfold pushR; rw [seg_len, if_neg hf]
              have hpt : pushT room.toNat (seg b n) (a : Int) = seg b n := by unfold pushT; rw [seg_len, if_neg hf]
              rw [hpr, hpt] at KS
              have hnr : (n : Int) = room := by omega
              clear hd0 hcells hp hr0 hdb hr ho hbox hsz hf hpr hpt
              go_wp2_with fail
              refine KS.mono ?_
              rintro e w5 ⟨rfl, p5, ho, _, _, hl⟩
              have KL := len_o ho
              rw [seg_len, hnr] at KL
              have HS := Lib.hid (show OrdI w q room.toNat a b p5 w5 from ⟨HP.out.below.trans hl, by rw [hn]; exact ho⟩)
              have hrr : (room != room) = false := by simp
              have hrr2 : (room == room) = true := by simp
              clear ho hl KS hn hnr
              go_wp2_with (first | (go_at_call 10; refine KL.mono ?_; rintro e w6 ⟨rfl, rfl⟩))
              exact ⟨⟨a, b, i + 1, p5, rfl, rfl, rfl, by omega, by omega, by omega, HS⟩, by simp [intOf]; omega⟩
          · have h2a : decide (r < 2) = false := decide_eq_false h2
            have KP := pop_o ho hsz
            rw [seg_len] at KP
            cases n with
            | zero =>
              have hab : ¬ (b : Int) < (a : Int) := by omega
              have hab2 : decide ((b : Int) < (a : Int)) = false := decide_eq_false hab
              have hab3 : decide (b < a) = false := decide_eq_false (by omega)
              rw [show gI (seg b 0) 0 = 0 from rfl, show decide (0 < 0) = false from rfl, show (seg b 0).tail = seg b 0 from rfl] at KP
              clear hd0 hcells hp hr0 hdb hr ho hbox hsz
              go_wp2_with fail
              refine KP.mono ?_
              rintro e w5 ⟨rfl, ho, _, hl⟩
              have HS := Lib.hid (show OrdI w q room.toNat a b p w5 from ⟨HP.out.below.trans hl, by rw [hn]; exact ho⟩)
              clear ho hl KP hn
              go_wp2
              exact ⟨⟨a, b, i + 1, p, rfl, rfl, rfl, by omega, by omega, by omega, HS⟩, by simp [intOf]; omega⟩
            | succ n =>
              have hab : (b : Int) < (a : Int) := by omega
              have hab2 : decide ((b : Int) < (a : Int)) = true := decide_eq_true hab
              have hab3 : decide (b < a) = true := decide_eq_true (by omega)
              rw [seg_pop, show gI ((b : Int) :: seg (b + 1) n) 0 = (b : Int) from rfl, show decide (0 < n + 1) = true from decide_eq_true (Nat.succ_pos n), List.tail_cons] at KP
              have hrb : IntKind.i64.wrap ((b : Int) + 1) = ((b + 1 : Nat) : Int) := by rw [IntKind.wrap_i64]; omega
              have hbb : ((b : Int) != (b : Int)) = false := by simp
              have hbb2 : ((b : Int) == (b : Int)) = true := by simp
              clear hd0 hcells hp hr0 hdb hr ho hbox hsz
              go_wp2_with fail
              refine KP.mono ?_
              rintro e w5 ⟨rfl, ho, _, hl⟩
              have HS := Lib.hid (show OrdI w q room.toNat a (b + 1) p w5 from ⟨HP.out.below.trans hl, by rw [show a - (b + 1) = n from by omega]; exact ho⟩)
              have hbl : b + 1 ≤ a := by omega
              clear ho hl KP hn
              go_wp2
              exact ⟨⟨a, b + 1, i + 1, p, rfl, rfl, rfl, by omega, hbl, by omega, HS⟩, by simp [intOf]; omega⟩
        · obtain rfl : i = ys.length := by omega
          have KL := len_o HP.out.own
          rw [seg_len] at KL
          obtain ⟨n, hn⟩ : ∃ n, a - b = n := ⟨_, rfl⟩
          rw [hn] at KL
          have hs : IntKind.i64.wrap ((a : Int) - (b : Int)) = (n : Int) := by rw [IntKind.wrap_i64] <;> omega
          have hnn : ((n : Int) == (n : Int)) = true := by simp
          clear hn
          go_wp2_with fail
          refine KL.mono ?_
          rintro e w6 ⟨rfl, rfl⟩
          go_wp2
          go_ret
          exact ⟨rfl, HP.out.below⟩
    · have hno : room < 1 ∨ room > 1048576 := by omega
      have KN := Lib.hid (newNo_c room hno w1)
      go_wp2_with fail
      refine KN.out.mono ?_
      rintro e w2 ⟨rfl, rfl⟩
      rcases hno with h | h
      · have h1 : decide (room < 1) = true := decide_eq_true h
        go_wp2
        go_ret
        exact ⟨rfl, HB1.out⟩
      · have h1 : decide (room < 1) = false := decide_eq_false (by omega)
        have h2 : decide (room > 1048576) = true := decide_eq_true h
        go_wp2
        go_ret
        exact ⟨rfl, HB1.out⟩
  · have hd : decide ((ys.length : Int) > 300) = true := decide_eq_true (by omega)
    go_wp2_with fail
    refine (KA.out _).mono ?_
    rintro e w2 ⟨rfl, hb2⟩
    have HB2 := Lib.hid (bT' HB1.out hb2 HB1.out.size)
    clear hb2
    go_wp2
    go_ret
    exact ⟨rfl, HB2.out⟩
end Go.Proofs.Ytgolbeoaomgmcaa
