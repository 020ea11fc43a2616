/-
  The contract of the given package gavotteref01's From over this seat's translation: the number of an int from nought on. Conditions: those that each theorem states.
-/
import Derived.Test.YtaicfgimaeojbaaDoorRefM
import Derived.OwnWalk
namespace Go.Proofs.YtaicfgimaeojbaaDoor
open Go.RowKit
attribute [local go_sem ↓] Go.wp_at_zero Go.wp_at_succ

theorem infoInt : (Tryd.prog.info? 3).map (fun i => (i.zero, i.size, i.bytes)) = some (some (.int .i64 0), 1, 8) := by kernel_rfl

/-- A row of the call's own holds l. -/
def OwnL (w : World) (B : Nat) (v : Value) (l : List Int) : Prop := w.ownsRow B 3 1 v l.length (l.map (Value.int .i64))
theorem OwnL.num {w : World} {B : Nat} {v : Value} {l : List Int} (h : OwnL w B v l) : NumAt w v l := by
  rcases h with ⟨_, ⟨rfl, hn⟩ | ⟨g, cap, cur, rfl, _, hh, hle, _, hsz, ht⟩⟩
  · exact ⟨none, 0, by rw [hn], .inl (List.eq_nil_of_length_eq_zero hn)⟩
  · refine ⟨some ⟨g, 0, none⟩, cap, rfl, .inr ⟨g, 0, rfl, fun i hi => ?_⟩⟩
    have hc := World.ownsRow.cellAt (w := w) (base := B) (e := 3) (size := 1) (g := g) (cap := cap) (n := l.length) (xs := l.map (Value.int .i64)) ⟨by simp, .inr ⟨g, cap, cur, rfl, by assumption, hh, hle, by assumption, hsz, ht⟩⟩ i (by omega)
    rw [Nat.zero_add, hc]
    simp [List.getD, List.getElem?_eq_getElem hi]

theorem OwnL.shp {w : World} {B : Nat} {v : Value} {l : List Int} (h : OwnL w B v l) : Shp v := by
  rcases h with ⟨_, ⟨rfl, _⟩ | ⟨g, cap, cur, rfl, _⟩⟩
  · exact Shp.nil
  · exact Shp.some _ _ _
/-- A slice whose row is new since the heap had B blocks. -/
def New (B : Nat) (v : Value) : Prop := ∀ a n c, v = .slice (some a) n c → B ≤ a.block
theorem New.nil (B : Nat) (n c : Nat) : New B (.slice none n c) := fun _ _ _ h => by simp at h
theorem New.mono {B C : Nat} {v : Value} (h : New B v) (k : C ≤ B) : New C v := fun a n c e => Nat.le_trans k (h a n c e)
theorem OwnL.new {w : World} {B : Nat} {v : Value} {l : List Int} (h : OwnL w B v l) : New B v := by
  rcases h with ⟨_, ⟨rfl, _⟩ | ⟨g, cap, cur, rfl, hg, _⟩⟩
  · exact New.nil _ _ _
  · intro a n c e
    simp at e
    obtain ⟨rfl, _⟩ := e
    exact hg
theorem NumIs.set {w : World} {v : Value} {N : Int} (h : NumIs w v N) {g : Nat} (hn : New (g + 1) v) (o : Nat) (u : Value) : NumIs (w.setCell ⟨g, o, none⟩ u) v N := by
  obtain ⟨l, ⟨x, c, rfl, hx⟩, r⟩ := h
  refine ⟨l, ⟨x, c, rfl, ?_⟩, r⟩
  rcases hx with hx | ⟨b, off, rfl, hc⟩
  · exact .inl hx
  · have hb := hn _ _ _ rfl
    simp at hb
    refine .inr ⟨b, off, rfl, fun i hi => ?_⟩
    rw [World.cell?_setCell_other _ _ _ _ (fun e => by have := congrArg Addr.block e; simp at this; omega)]
    exact hc i hi
theorem from_len (m n0 P V : Int) (hm : 0 < m) (hn : n0 ≤ 9223372036854775807) (hV : 0 ≤ V) (k : Nat) (hP : P = 10000 ^ k) (h : V + P * m = n0) : k ≤ 4 := by
  rcases Nat.lt_or_ge 4 k with h5 | h5
  · have h1 := pow_mono 5 k (by omega)
    have h2 : (10000 : Int) ^ 5 = 100000000000000000000 := by decide
    rw [← hP, h2] at h1
    have h3 : P * 1 ≤ P * m := Int.mul_le_mul_of_nonneg_left (by omega) (by omega)
    omega
  · exact h5

def FromPost (w : World) (n0 : Int) (e : Ending) (w' : World) : Prop := (∃ v l, e = .returned v ∧ OwnL w' w.heap.size v l ∧ Dig l ∧ Can l ∧ val l = n0) ∧ Below w.heap.size w w'

set_option maxHeartbeats 2000000 in
theorem from_own (n0 : Int) (h0 : 0 ≤ n0) (h1 : n0 ≤ 9223372036854775807) (w : World) :
    Calls Tryd.prog 17 #[.int .i64 n0] w (FromPost w n0) := by
  obtain ⟨i0, hi, hz0, hz1, hz2⟩ := info_parts infoInt
  go_enter Tryd.func17, Tryd.ntmps17
  go_wp2
  go_loopw [0, 3] (fun vn vo wr => ∃ (m : Int) (l : List Int), vn = .int .i64 m ∧ 0 ≤ m ∧ m ≤ 9223372036854775807 ∧ Dig l ∧ val l + 10000 ^ l.length * m = n0 ∧ (m = 0 → Can l) ∧ OwnL wr w.heap.size vo l ∧ Below w.heap.size w wr) (fun vn _ _ => (intOf vn).toNat)
  case atStart => exact ⟨n0, [], rfl, h0, h1, fun _ h => by simp at h, by simp [val], fun _ => by simp [Can], World.ownsRow_nil _ _ _ _, Below.refl _ _⟩
  case round =>
    obtain ⟨m, l, rfl, m0, m1, hD, hv, hc, hown, hbl⟩ := hrel
    have HV := Lib.hid hv
    have HC := Lib.hid hc
    have HD := Lib.hid hD
    clear hv hc hD
    by_cases hm : 0 < m
    · have hlen := from_len m n0 _ _ hm h1 (val_bd l HD.out).1 l.length rfl HV.out
      have e1 : 0 ≤ m % 10000 ∧ m % 10000 < 10000 := by omega
      have hq : m / 10000 ≤ m := by omega
      have hq0 : 0 ≤ m / 10000 := by omega
      have hsz := hbl.size
      have H2 := Lib.hid hown
      clear hown
      go_wp2_with (at_builtin; refine wpList_append_own _ rfl _ _ 38 rfl w.heap.size 3 i0 (.int .i64 0) 1 8 Tryd.underlying38 hi hz0 hz1 hz2 rfl (by decide) _ _ _ rfl (World.ownsRow.alloc H2.out _) ⟨wr.heap.size, 0, none⟩ 1 1 [.int .i64 (m % 10000)] rfl rfl ?c1 ?c2 ?c3 ?c4 ?c5 ?_)
      case c1 => exact cell_one_new _ _ _
      case c2 => simp [Value.oneCell']
      case c3 => unfold maxLen; omega
      case c4 => omega
      case c5 => simp; omega
      intro v' w' hown' hgrow _
      have hb' := Below.grown (belowA hbl _) hgrow (belowA hbl _).size (fun k hk => (H2.out.lt k hk).1)
      have H3 := Lib.hid hown'
      clear hown' hgrow
      go_wp2
      go_roundw
      case rel =>
        refine ⟨m / 10000, l ++ [m % 10000], rfl, hq0, by omega, HD.out.app (Dig.one e1.1 e1.2), ?_, fun _ => by simp [Can]; omega, ?_, hb'⟩
        · rw [val_snoc, List.length_append, List.length_singleton, pow_s, ← HV.out, Int.mul_assoc, Int.add_assoc, ← Int.mul_add]
          have : m % 10000 + 10000 * (m / 10000) = m := by omega
          rw [this]
        · have := H3.out
          simp only [OwnL, List.length_append, List.length_singleton, List.map_append, List.map_cons, List.map_nil]
          exact this
      case measure => simp [intOf]; omega
    · have hm0 : m = 0 := by omega
      subst hm0
      have h4 : val l = n0 := by simpa using HV.out
      have H2 := Lib.hid hown
      have H5 := Lib.hid h4
      clear hown h4
      go_wp2
      go_ret
      exact ⟨⟨_, l, rfl, H2.out, HD.out, HC.out trivial, H5.out⟩, hbl⟩

theorem from_c (n : Int) (h0 : 0 ≤ n) (h1 : n ≤ 9223372036854775807) (w : World) :
    Calls Tryd.prog 17 #[.int .i64 n] w fun e w' => (∃ v, e = .returned v ∧ NumIs w' v n) ∧ Below w.heap.size w w' := by
  refine (from_own n h0 h1 w).mono ?_
  rintro e w' ⟨⟨v, l, rfl, o, d, c, rfl⟩, hb⟩
  exact ⟨⟨v, rfl, l, o.num, d, c, rfl, o.shp⟩, hb⟩
end Go.Proofs.YtaicfgimaeojbaaDoor
