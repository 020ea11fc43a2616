/-
  token's mark over this seat's translation, by the table of marks. Conditions: those that each theorem states.
-/
import Derived.Test.YtikpbfghdiomgaaDoorT8N
namespace Go.Proofs.YtikpbfghdiomgaaDoor
open Go.RowKit Go.Lib Tk

/-- A mark of the table. -/
def mkB (i : Nat) : ByteArray := ⟨(Tk.marks.getD i []).toArray⟩
/-- What token reads of the variables that the program lays. -/
structure Env8 (w : World) : Prop where
  marks : ∀ i, i < 17 → w.cell? ⟨0, i, none⟩ = some (.string (mkB i))
  rng : ∃ ev, w.cell? ⟨2, 0, none⟩ = some ev ∧ (ev = .nilIface ∨ ∃ te pe, ev = .iface te pe)
theorem keepc9 {W W' : World} {a : Addr} {u : Value} (hb : Below W.heap.size W W') (h : W.cell? a = some u) : W'.cell? a = some u := by
  rw [← h]
  exact hb.cell (World.block_lt_of_cell? _ _ h)
theorem Env8.keep {w w' : World} (h : Env8 w) (hb : Below w.heap.size w w') : Env8 w' := by
  obtain ⟨h1, ev, h2, h3⟩ := h
  exact ⟨fun i hi => keepc9 hb (h1 i hi), ev, keepc9 hb h2, h3⟩
theorem bs_mkB (i : Nat) : bs (mkB i) = Tk.marks.getD i [] := bs_of _
theorem firstM_at {l : Bs} : ∀ (ms : List Bs) (i : Nat), (∀ j, j < i → pre (ms.getD j []) l = false) → i < ms.length → pre (ms.getD i []) l = true → firstM l ms = some (ms.getD i [])
  | [], _, _, h, _ => absurd h (Nat.not_lt_zero _)
  | m :: ms, 0, _, _, h => by
    have : pre m l = true := h
    rw [firstM, if_pos this]
    rfl
  | m :: ms, i + 1, h1, h2, h3 => by
    have h0 : pre m l = false := h1 0 (Nat.succ_pos _)
    rw [firstM, h0, if_neg (by decide), firstM_at ms i (fun j hj => h1 (j + 1) (by omega)) (by simpa using h2) h3]
    rfl
theorem firstM_none {l : Bs} : ∀ ms : List Bs, (∀ j, j < ms.length → pre (ms.getD j []) l = false) → firstM l ms = none
  | [], _ => rfl
  | m :: ms, h => by
    have h0 : pre m l = false := h 0 (Nat.succ_pos _)
    rw [firstM, h0, if_neg (by decide)]
    exact firstM_none ms fun j hj => h (j + 1) (by simpa using hj)
/-- What mark answers. -/
def markR (l : Bs) : Bs × Int := if markLen l = 0 then ([], 5) else (l.take (markLen l), 0)
theorem markR_at {l : Bs} {i : Nat} (h1 : ∀ j, j < i → pre (bs (mkB j)) l = false) (hi : i < 17) (h : pre (bs (mkB i)) l = true) : markR l = (bs (mkB i), 0) := by
  have := firstM_at marks i (fun j hj => by rw [← bs_mkB]; exact h1 j hj) hi (by rw [← bs_mkB]; exact h)
  rw [firstM_marks] at this
  unfold markR
  by_cases h0 : markLen l = 0
  · rw [if_pos h0] at this
    cases this
  · rw [if_neg h0] at this ⊢
    rw [Option.some.inj this, bs_mkB]
theorem markR_no {l : Bs} (h1 : ∀ j, j < 17 → pre (bs (mkB j)) l = false) : markR l = ([], 5) := by
  have := firstM_none (l := l) marks (fun j hj => by rw [← bs_mkB]; exact h1 j hj)
  rw [firstM_marks] at this
  unfold markR
  by_cases h0 : markLen l = 0
  · rw [if_pos h0]
  · rw [if_neg h0] at this
    cases this
def MarkA (s : ByteArray) (w : World) (e : Ending) (w' : World) : Prop := e = .returned (.tuple #[.string ⟨(markR (bs s)).1.toArray⟩, .int .i64 (markR (bs s)).2]) ∧ w = w'
abbrev mkT : Array Value := #[.string (mkB 0), .string (mkB 1), .string (mkB 2), .string (mkB 3), .string (mkB 4), .string (mkB 5), .string (mkB 6), .string (mkB 7), .string (mkB 8), .string (mkB 9), .string (mkB 10), .string (mkB 11), .string (mkB 12), .string (mkB 13), .string (mkB 14), .string (mkB 15), .string (mkB 16)]
theorem idx_mk : ∀ i : Nat, i < 17 → ∀ w : World, (Instr.index 58 (.agg mkT) (.int .i64 (i : Int))).run Tryd.prog w = .ok (.string (mkB i)) w
  | 0, _, _ | 1, _, _ | 2, _, _ | 3, _, _ | 4, _, _ | 5, _, _ | 6, _, _ | 7, _, _ | 8, _, _ | 9, _, _ | 10, _, _ | 11, _, _ | 12, _, _ | 13, _, _ | 14, _, _ | 15, _, _ | 16, _, _ => by kernel_rfl
  | _ + 17, h, _ => absurd h (by omega)
set_option maxHeartbeats 4000000 in
theorem pmark_c (s : ByteArray) (w : World) (he : Env8 w) : Calls Tryd.prog 26 #[.string s] w fun e w' => MarkA s w e w' := by
  have c0 := he.marks 0 (by decide)
  have c1 := he.marks 1 (by decide)
  have c2 := he.marks 2 (by decide)
  have c3 := he.marks 3 (by decide)
  have c4 := he.marks 4 (by decide)
  have c5 := he.marks 5 (by decide)
  have c6 := he.marks 6 (by decide)
  have c7 := he.marks 7 (by decide)
  have c8 := he.marks 8 (by decide)
  have c9 := he.marks 9 (by decide)
  have c10 := he.marks 10 (by decide)
  have c11 := he.marks 11 (by decide)
  have c12 := he.marks 12 (by decide)
  have c13 := he.marks 13 (by decide)
  have c14 := he.marks 14 (by decide)
  have c15 := he.marks 15 (by decide)
  have c16 := he.marks 16 (by decide)
  have HI := Lib.hid idx_mk
  have HP := Lib.hid (fun m => prefix_c s m)
  clear he
  go_enter Tryd.func26, Tryd.ntmps26
  go_wp2
  clear c0 c1 c2 c3 c4 c5 c6 c7 c8 c9 c10 c11 c12 c13 c14 c15 c16
  go_loopw [7] (fun v wr => ∃ i : Nat, v = .int .i64 (i : Int) ∧ i ≤ 17 ∧ wr = w ∧ Hid (∀ j, j < i → pre (bs (mkB j)) (bs s) = false)) (fun v _ => 17 - (RowKit.intOf v).toNat)
  case atStart => exact ⟨0, rfl, Nat.zero_le _, rfl, Lib.hid fun j h => absurd h (Nat.not_lt_zero _)⟩
  case round =>
    obtain ⟨i, rfl, hi, rfl, HR⟩ := hrel
    by_cases hlt : i < 17
    · have hiz : (i : Int) < 17 := by omega
      have hri : IntKind.i64.wrap ((i : Int) + 1) = ((i + 1 : Nat) : Int) := by rw [IntKind.wrap_i64] <;> omega
      have hix := HI.out i hlt
      have KP := Lib.hid (HP.out (mkB i))
      by_cases hb : pre (bs (mkB i)) (bs s) = true
      · have HM := Lib.hid (markR_at HR.out hlt hb)
        rw [hb] at KP
        clear hb
        go_wp2_with fail
        refine (KP.out _).mono ?_
        rintro e w1 ⟨rfl, rfl⟩
        go_wp2
        refine bodyPost_ret (results_tmp2 rfl _ _ _) rfl ?_
        unfold MarkA
        rw [HM.out]
        exact ⟨by rw [of_bs]; rfl, rfl⟩
      · have hbf : pre (bs (mkB i)) (bs s) = false := by simpa using hb
        have HN := Lib.hid (show ∀ j, j < i + 1 → pre (bs (mkB j)) (bs s) = false from fun j hj => by
          by_cases e : j = i
          · subst e; exact hbf
          · exact HR.out j (by omega))
        rw [hbf] at KP
        clear hb hbf
        go_wp2_with fail
        refine (KP.out _).mono ?_
        rintro e w1 ⟨rfl, rfl⟩
        go_wp2
        go_roundw
        case rel => exact ⟨i + 1, rfl, hlt, (by first | rfl | trivial), HN⟩
        case measure => simp [RowKit.intOf]; omega
    · obtain rfl : i = 17 := by omega
      have HM := Lib.hid (markR_no HR.out)
      go_wp2
      refine bodyPost_ret (results_tmp2 rfl _ _ _) rfl ?_
      unfold MarkA
      rw [HM.out]
      exact ⟨rfl, rfl⟩
end Go.Proofs.YtikpbfghdiomgaaDoor
