/-
  heap's lesser over this seat's translation. No condition but those that each theorem states.
-/
import Derived.Test.YtngeinmpnjfhfaaHpAbove
namespace Go.Proofs.Ytngeinmpnjfhfaa
open Go.Shelf Go.RowKit Go.Lib Go.Sort Hp

/-- A list of entries in a slice that begins a row. -/
def Lies (W : World) (p : Option Addr) (L : List It) : Prop := ∀ i, i < L.length → ∃ g, p = some ⟨g, 0, none⟩ ∧ W.cell? ⟨g, i * 2, none⟩ = some (.int .i64 (Hp.g L i).1) ∧ W.cell? ⟨g, i * 2 + 1, none⟩ = some (.int .i64 (Hp.g L i).2)
theorem Lies.below {W W' : World} {p : Option Addr} {L : List It} (h : Lies W p L) (hb : Below W.heap.size W W') : Lies W' p L := fun i hi => by
  obtain ⟨g, e, h1, h2⟩ := h i hi
  exact ⟨g, e, kc' hb h1, kc' hb h2⟩
theorem Lies.grown {W : World} {p : Option Addr} {L : List It} (h : Lies W p L) (n : Nat) (os : Array Obj) : Lies (grow (W.drewN n) os) p L := fun i hi => by
  obtain ⟨g, e, h1, h2⟩ := h i hi
  exact ⟨g, e, cg h1 n os, cg h2 n os⟩

set_option maxHeartbeats 4000000 in
set_option maxRecDepth 100000 in
theorem lesser_g (hb cap : Nat) (p : Option Addr) (L : List It) (t : Nat) (w : World) (h0 : w.cell? ⟨hb, 0, none⟩ = some (.func (.func 10) #[] #[])) (hL : Lies w p L) (ht : t ≤ 1000000) :
    Calls Try.prog 43 #[.pointer (some ⟨hb, 0, none⟩), .slice p L.length cap, .int .i64 t] w fun e w' => e = .returned (.int .i64 (lessr L t : Nat)) ∧ ∃ q os', w' = grow (w.drewN q) os' := by
  have mixed : Try.prog.follows .mixedOrders = true := by kernel_rfl
  have eg : ∀ args w, (callFunc 10 args).run Try.prog w = .ok (.enter 10 args) w := enters_of Try.func10 (by kernel_rfl) rfl
  have KO := Lib.hid fun (x y : It) (w : World) => order_g x y w
  have HL := Lib.hid (And.intro hL (show lessr L t = if 2 * t + 2 < L.length ∧ ltE (Hp.g L (2 * t + 2)) (Hp.g L (2 * t + 1)) = true then 2 * t + 2 else 2 * t + 1 from rfl))
  obtain ⟨r, hr⟩ : ∃ r, lessr L t = r := ⟨_, rfl⟩
  rw [hr]
  obtain ⟨n, hn⟩ : ∃ n, L.length = n := ⟨_, rfl⟩
  obtain ⟨q, hq⟩ : ∃ q : Nat, q = 2 * t + 1 := ⟨_, rfl⟩
  obtain ⟨q1, hq1⟩ : ∃ q1 : Nat, q1 = 2 * t + 2 := ⟨_, rfl⟩
  have HR := Lib.hid (And.intro hr (And.intro hn (And.intro hq hq1)))
  rw [hn]
  have r1 : IntKind.i64.wrap (2 * (t : Int)) = 2 * (t : Int) := by rw [IntKind.wrap_i64]; omega
  have r2 : IntKind.i64.wrap (2 * (t : Int) + 1) = (q : Int) := by rw [IntKind.wrap_i64]; omega
  have r3 : IntKind.i64.wrap ((q : Int) + 1) = (q1 : Int) := by rw [IntKind.wrap_i64]; omega
  by_cases hlt : q1 < n
  · have hd : decide ((q1 : Int) < (n : Int)) = true := decide_eq_true (by omega)
    have hb1 : (q1 : Int) < (n : Int) := by omega
    have hb0 : (q : Int) < (n : Int) := by omega
    obtain ⟨g, rfl, a1, a2⟩ := hL q1 (by omega)
    obtain ⟨g', e', b1, b2⟩ := hL q (by omega)
    obtain rfl : g = g' := by simpa using e'
    obtain ⟨x, hx⟩ : ∃ x, Hp.g L q1 = x := ⟨_, rfl⟩
    obtain ⟨y, hy⟩ : ∃ y, Hp.g L q = y := ⟨_, rfl⟩
    rw [hx] at a1 a2
    rw [hy] at b1 b2
    have c0 := cg h0
    have c1 := cg a1
    have c2 := cg a2
    have c3 := cg b1
    have c4 := cg b2
    have hz := cmpE_lt x y
    have HX := Lib.hid (And.intro hx (And.intro hy hlt))
    clear hr hn hq hq1 hL h0 a1 a2 b1 b2 e' hx hy hlt
    go_enter Try.func43, Try.ntmps43
    go_wp2_with fail
    go_quiet_grown (first | (go_at_fn 10; exact Calls.grown_of (KO.out x y _)))
    cases h : ltE x y
    · rw [h] at hz
      go_wp2
      go_ret
      refine ⟨?_, nq, osq, rfl⟩
      obtain ⟨e1, e2, e3, e4⟩ := HR.out
      obtain ⟨k1, k2, k3⟩ := HX.out
      rw [← e1, HL.out.2, ← e3, ← e4, k1, k2, h, if_neg (by simp)]
      rfl
    · rw [h] at hz
      go_wp2
      go_ret
      refine ⟨?_, nq, osq, rfl⟩
      obtain ⟨e1, e2, e3, e4⟩ := HR.out
      obtain ⟨k1, k2, k3⟩ := HX.out
      rw [← e1, HL.out.2, ← e3, ← e4, k1, k2, h, e2, if_pos ⟨k3, rfl⟩]
      rfl
  · have hd : decide ((q1 : Int) < (n : Int)) = false := decide_eq_false (by omega)
    have hd2 : decide (q1 < n) = false := decide_eq_false hlt
    have HX := Lib.hid hlt
    clear hr hn hq hq1 hL h0 hlt
    go_enter Try.func43, Try.ntmps43
    go_wp2_with fail
    go_quiet (fail)
    go_wp2
    go_ret
    refine ⟨?_, nq, #[], by rw [grow_empty]⟩
    obtain ⟨e1, e2, e3, e4⟩ := HR.out
    rw [← e1, HL.out.2, ← e3, ← e4, e2, if_neg (fun h => HX.out h.1)]
    rfl
end Go.Proofs.Ytngeinmpnjfhfaa
