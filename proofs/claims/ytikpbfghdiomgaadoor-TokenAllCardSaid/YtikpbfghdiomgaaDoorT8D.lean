/-
  gavottelaw08's plain over this seat's translation: words as the document has them. Conditions: those that each theorem states.
-/
import Derived.Test.YtikpbfghdiomgaaDoorT8C
import Derived.Deep.RegionLaw
import Derived.Maps.AppendAt
import Derived.Deep.AppendLies
namespace Go.Proofs.YtikpbfghdiomgaaDoor
open Go.RowKit Go.Lib Tk
attribute [local go_sem] Oper.semAt_some

theorem exec_append8 {P : Program} {o : Oper} {a : Act} {w w' : World} (s x : Operand) (t : TypeId) (ho : o.op = .call { callee := .builtin .append, args := #[s, x], argTypes := #[t, t] })
    {v1 v2 v' : Value} (hs : a.eval s = v1) (hx : a.eval x = v2) (hr : (Builtin.append_ #[t, t] o.type #[v1, v2]).run P w = .ok v' w') : (execOp a.eval o).run P w = .ok (.value v') w' := by
  simp [execOp, ho, resolve, invoke, builtin, hs, hx, hr, Result.andThen]
theorem step_append_run8 {P : Program} {ops : Array Oper} {o : Oper} {a : Act} {w w' : World} {K : Act → World → Prop} {Q : Exit → Act → World → Prop} {E : Prop}
    (hg : o.guard = none) (s x : Operand) (t : TypeId) (hop : o.op = Op.call { callee := Callee.builtin Builtin.append, args := #[s, x], argTypes := #[t, t] })
    {v1 v2 v' : Value} (hs : a.eval s = v1) (hx : a.eval x = v2) (hr : (Builtin.append_ #[t, t] o.type #[v1, v2]).run P w = .ok v' w') (hK : K (a.put o.dst v') w') :
    if Region.wanted o (yielded ops a.tmps) = true then Oper.wp P o a w K Q else E := by
  have hw : Region.wanted o (yielded ops a.tmps) = true := by simp [Region.wanted, hg]
  rw [if_pos hw]
  unfold Oper.wp
  rw [exec_append8 s x t hop hs hx hr]
  exact hK
theorem take_cW {L : List Tk.W} {k : Nat} {u : Tk.W} (h : L[k]? = some u) : L.take (k + 1) = L.take k ++ [u] := by
  rw [List.take_add_one, h]
  rfl
set_option maxHeartbeats 8000000 in
set_option maxRecDepth 100000 in
theorem plain8_c (L : List Tk.W) (p : Option Addr) (c : Nat) (W : World) (hL : FlatW W p L) (hn : L.length ≤ 1000000) :
    Calls Tryd.prog 12 #[.slice p L.length c] W fun e w' => ∃ v, e = .returned v ∧ RowW w' W.heap.size v L ∧ Below W.heap.size W w' := by
  have mixed : Tryd.prog.follows .mixedOrders = true := by kernel_rfl
  obtain ⟨i0, hi0, hz0, hz1, hz2⟩ := info_parts infoTk
  have HX := Lib.hid hL
  clear hL
  go_enter Tryd.func12, Tryd.ntmps12
  go_wp2
  go_loopw [3, 4] (fun ov v wr => ∃ (k : Nat) (vv : Value), vv = ov ∧ v = .int .i64 k ∧ k ≤ L.length ∧ Hid (Below W.heap.size W wr ∧ RowW wr W.heap.size vv (L.take k))) (fun _ v _ => L.length - (intOf v).toNat)
  case atStart => exact ⟨0, _, rfl, rfl, Nat.zero_le _, Lib.hid ⟨Below.refl _ _, World.ownsRow_nil _ _ _ _⟩⟩
  case round =>
    obtain ⟨k, ov, rfl, rfl, hk, HB⟩ := hrel
    by_cases hlt : k < L.length
    · have hkz : (k : Int) < (L.length : Int) := by omega
      have hk0 : (0 : Int) ≤ (k : Int) := by omega
      have hri : IntKind.i64.wrap ((k : Int) + 1) = ((k + 1 : Nat) : Int) := by rw [IntKind.wrap_i64] <;> omega
      obtain ⟨u, hu⟩ : ∃ u, L[k]? = some u := ⟨_, List.getElem?_eq_getElem hlt⟩
      obtain ⟨g, off, rfl, a0, a1, a2, a3⟩ := (HX.out.keep HB.out.1).in hu
      have HT := Lib.hid (take_cW hu)
      have HLN := Lib.hid (show (L.take k).length + 1 ≤ 1000000 ∧ W.heap.size ≤ wr.heap.size from ⟨by rw [List.length_take]; omega, HB.out.1.size⟩)
      clear hu
      obtain ⟨us, hus⟩ : ∃ z : ByteArray, (⟨u.s.toArray⟩ : ByteArray) = z := ⟨_, rfl⟩
      have HS := Lib.hid hus
      rw [hus] at a1
      clear hus
      have hb1 : Below wr.heap.size wr (wr.alloc (.cells #[.int .i64 (u.kind : Int), .string us, .int .i64 (u.n : Int), .int .i64 (u.p : Int)] 41)).drew := (bA8 (Below.refl _ wr) (Nat.le_refl _) _).drew
      obtain ⟨v8, w8, hrun, hown8, hg8, hnil8, hloc8⟩ := run_append_own_at (P := Tryd.prog) (wr.alloc (.cells #[.int .i64 (u.kind : Int), .string us, .int .i64 (u.n : Int), .int .i64 (u.p : Int)] 41)).drew W.heap.size 31 31 41 i0 (.agg #[.int .i64 0, .string ⟨#[]⟩, .int .i64 0, .int .i64 0]) 4 40 Tryd.underlying31 hi0 hz0 hz1 hz2 rfl (by decide) ov (L.take k).length ((L.take k).flatMap cW) (rowBelow8 HB.out.2 hb1) ⟨wr.heap.size, 0, none⟩ 1 1 [.int .i64 (u.kind : Int), .string us, .int .i64 (u.n : Int), .int .i64 (u.p : Int)] rfl (by have := World.ownsRow_lit (base := 0) (e := 41) (size := 4) wr #[.int .i64 (u.kind : Int), .string us, .int .i64 (u.n : Int), .int .i64 (u.p : Int)] 1 (by omega) (by unfold maxLen; omega) rfl; exact this.cells (g := wr.heap.size) (by simp [Value.ownBlock])) (by intro u hu; simp only [List.mem_cons, List.not_mem_nil, or_false] at hu; rcases hu with rfl | rfl | rfl | rfl <;> rfl) (by unfold maxLen; have := HLN.out; omega) (by have := HLN.out; omega) (by have := HLN.out; have := hb1.size; omega)
      have HRUN := Lib.hid hrun
      have hbw : Below W.heap.size W (wr.alloc (.cells #[.int .i64 (u.kind : Int), .string us, .int .i64 (u.n : Int), .int .i64 (u.p : Int)] 41)).drew := belowT8 HB.out.1 hb1
      have HN := Lib.hid (show Below W.heap.size W w8 ∧ RowW w8 W.heap.size v8 (L.take (k + 1)) from ⟨hbw.grown hg8 (by have := HLN.out; have := hb1.size; omega) (fun q e => (HB.out.2.lt q e).1), by rw [HT.out]; exact roww_snoc (by unfold cW; rw [HS.out]) hown8⟩)
      clear hrun hown8 hg8 hnil8 hloc8 hbw hb1
      go_wp2_with fail
      go_region_law (first | (refine step_append_run8 rfl (.tmp 11) (.tmp 33) 31 rfl (v1 := ov) (v2 := .slice (some ⟨wr.heap.size, 0, none⟩) 1 1) (by simp [Act.eval]) (by simp [Act.eval]) HRUN.out ?_))
      all_goals go_wp2
      all_goals go_roundw
      all_goals (first
        | (case rel => exact ⟨k + 1, v8, rfl, rfl, hlt, HN⟩)
        | (case measure => simp [intOf]; omega))
    · have hkn : ¬ ((k : Int) < (L.length : Int)) := by omega
      have HR := Lib.hid (show RowW wr W.heap.size ov L from by have := HB.out.2; rwa [List.take_of_length_le (by omega)] at this)
      go_wp2
      go_ret
      exact ⟨_, rfl, HR.out, HB.out.1⟩
end Go.Proofs.YtikpbfghdiomgaaDoor
