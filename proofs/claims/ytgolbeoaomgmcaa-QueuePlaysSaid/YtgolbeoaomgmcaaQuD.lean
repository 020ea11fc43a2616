/-
  queue's straight over this seat's translation: a list, at the beginning of which the items stand in their order. Conditions: those that each theorem states.
-/
import Derived.Test.YtgolbeoaomgmcaaQuC
namespace Go.Proofs.Ytgolbeoaomgmcaa
open Go.RowKit Go.Shelf Go.Lib Go.Sort Qu
attribute [local go_sem] Oper.semAt_some

theorem infoI : (Try.prog.info? 3).map (fun i => (i.zero, i.size, i.bytes)) = some (some (.int .i64 0), 1, 8) := by kernel_rfl
theorem makeInts (n : Nat) (hn : n ≤ 2000000) (w : World) :
    (Instr.makeSlice 36 (.int .i64 (n : Int)) (.int .i64 (n : Int))).run Try.prog w = .ok (.slice (some ⟨w.heap.size, 0, none⟩) n n) (w.alloc (rowO (List.replicate n 0))) := by
  obtain ⟨i, hi, hzz⟩ := Option.map_eq_some_iff.1 infoI
  simp only [Prod.mk.injEq] at hzz
  obtain ⟨hz, hs, hb⟩ := hzz
  have h := run_make (P := Try.prog) w 36 3 i _ Try.underlying36 hi hz .i64 .i64 n n (by omega) (Int.le_refl _) (by rw [hb]; omega) (by omega)
  rw [hs] at h
  simp only [Int.toNat_natCast, Nat.mul_one] at h
  rw [h]
  have hm : madeCells (Value.cells (Value.int .i64 0)) n = ((List.replicate n (0 : Int)).map fun x => Value.int .i64 x).toArray := by
    apply Array.ext
    · simp [size_madeCells]
    · intro j h1 h2
      simp [madeCells, Value.cells, Nat.mod_one]
  rw [hm]
  rfl

/-- What is straightened so far. -/
structure StrI (w : World) (xs : List Int) (n k : Nat) (W : World) : Prop where
  row : W.heap[w.heap.size]? = some (rowO (str xs n k))
  box : W.heap[w.heap.size + 1]? = some (.cells #[.slice (some ⟨w.heap.size, 0, none⟩) n n] 36 (0, 0))
  below : Below w.heap.size w W
theorem strI_own {w : World} {B : Nat} {xs : List Int} {n : Nat} (hB : w.heap.size + 2 ≤ B) : OwnFrom B (fun k W => StrI w xs n k W) := by
  rintro k A C row h hgr hr
  have hk : ∀ b, b < w.heap.size + 2 → C.heap[b]? = A.heap[b]? := fun b hb => hgr.block b (by have := (Array.getElem?_eq_some_iff.1 h.box).1; omega) fun e => by have := (hr b e.symm).1; omega
  exact ⟨(hk _ (by omega)).trans h.row, (hk _ (by omega)).trans h.box, ⟨hgr.os.trans h.below.os, hgr.tape.trans h.below.tape, hgr.output.trans h.below.output, Nat.le_trans h.below.size hgr.size, fun j hj => (hk j (by omega)).trans (h.below.block j hj)⟩⟩
theorem StrI.step {w W W' : World} {xs : List Int} {n k : Nat} (h : StrI w xs n k W) (hb : Below W.heap.size W W') : StrI w xs n k W' :=
  strI_own (Nat.le_refl _) k W W' none h (grown_of_below hb) fun r e => by cases e
theorem StrI.next {w W : World} {xs : List Int} {n k : Nat} (h : StrI w xs n k W) (hk : k < xs.length) (hn : xs.length ≤ n) : StrI w xs n (k + 1) (W.setCell ⟨w.heap.size, k, none⟩ (.int .i64 (gI xs k))) := by
  have hh : ∀ b, b ≠ w.heap.size → (W.setCell ⟨w.heap.size, k, none⟩ (.int .i64 (gI xs k))).heap[b]? = W.heap[b]? := fun b hb => heap_setCell_other _ ⟨w.heap.size, k, none⟩ b _ hb
  refine ⟨?_, (hh _ (by omega)).trans h.box, ⟨h.below.os, h.below.tape, h.below.output, by simpa using h.below.size, fun j hj => (hh j (by omega)).trans (h.below.block j hj)⟩⟩
  rw [rowO_set h.row, ← str_step hn hk]
  congr 3
  unfold gI
  rw [List.getD_eq_getElem?_getD, List.getElem?_eq_getElem hk]
  rfl
/-- The temporaries of a round. -/
def actS (q : Nat) (w : World) (n : Nat) (k : Int) (x : Int) : Act :=
  { tmps := #[.pointer (some ⟨q, 0, none⟩), .int .i64 n, undef, undef, .slice none 0 0, .pointer (some ⟨w.heap.size + 1, 0, none⟩), .int .i64 k, .int .i64 x, .int .i64 n, .slice (some ⟨w.heap.size, 0, none⟩) n n, .pointer (some ⟨q, 0, none⟩),
      .func (.func 24) #[.pointer (some ⟨q, 0, none⟩)] #[], .int .i64 k, .int .i64 x, undef, undef, undef, undef, undef], defers := [] }

set_option maxRecDepth 100000 in
set_option maxHeartbeats 8000000 in
theorem straight_c {q : Nat} {p : Option Addr} {R : List Int} {f k0 : Nat} {xs : List Int} {w : World} (n : Nat) (h : QueS w q p R f k0 xs) (hn : xs.length ≤ n) (hn2 : n ≤ 2000000) :
    Calls Try.prog 22 #[.pointer (some ⟨q, 0, none⟩), .int .i64 n] w fun e w' => e = .returned (.slice (some ⟨w.heap.size, 0, none⟩) n n) ∧ w'.heap[w.heap.size]? = some (rowO (str xs n xs.length)) ∧ Below w.heap.size w w' := by
  have EG : ∀ args w, (callFunc 24 args).run Try.prog w = .ok (.enter 24 args) w := enters_of Try.func24 (by kernel_rfl) rfl
  have hmk := makeInts n hn2
  have hmf : ∀ (fn : Fn) (first cap : Array Value) (w : World), (Instr.makeFunc fn first cap).run Try.prog w = .ok (.func fn first cap) w := fun _ _ _ _ => rfl
  obtain ⟨W0, hW0⟩ : ∃ W0, (w.alloc (rowO (List.replicate n 0))).alloc (.cells #[.slice (some ⟨w.heap.size, 0, none⟩) n n] 36) = W0 := ⟨_, rfl⟩
  have hs0 : W0.heap.size = w.heap.size + 2 := by rw [← hW0]; simp
  have hb0 : Below w.heap.size w W0 := hW0 ▸ bA' (bA' (Below.refl _ w) (Nat.le_refl _) _) (by simp) _
  have hI0 : StrI w xs n 0 W0 := by
    refine ⟨?_, ?_, hb0⟩
    · rw [← hW0, Below.heap_alloc _ _ _ (by simp), World.alloc_heap_new, str_zero]
    · have := World.alloc_heap_new (w.alloc (rowO (List.replicate n 0))) (.cells #[.slice (some ⟨w.heap.size, 0, none⟩) n n] 36)
      rw [World.size_alloc] at this
      rw [← hW0]
      exact this
  have hseq := each_seq (safe := fun b o => o.isCells = true ∧ b < w.heap.size) (h.below hb0) (by
    intro b o hb hq
    have hlt := h.lt
    rcases hq with rfl | hq
    · rw [(h.below hb0).box] at hb
      cases hb
      exact ⟨rfl, hlt⟩
    · have hg := (h.at hq).2
      have hlg := (Array.getElem?_eq_some_iff.1 hg).1
      rw [hb0.block _ hlg, hg] at hb
      cases hb
      exact ⟨rfl, hlg⟩)
  have HSEQ := Lib.hid hseq
  have HW0 := Lib.hid hW0
  have H0 := Lib.hid (And.intro hs0 (And.intro hI0 (And.intro hn hn2)))
  clear hseq hW0 hb0 hs0 hn hn2 h hI0
  refine (callsIn_wide (n := 0)).1 ?_
  refine callsIn_of_wp_marks Try.func22 rfl trivial ?_ rfl
  simp only [Try.ntmps22, List.size_toArray, List.length_cons, List.length_nil, Nat.reduceAdd, Nat.reduceSub, Array.replicate_succ, Array.replicate_zero, List.push_toArray, List.append_toArray, List.nil_append, List.cons_append]
  gi_wp2
  rw [HW0.out]
  refine range_lawF (gf := 24) (pre := #[.pointer (some ⟨q, 0, none⟩)]) (lb := #[]) rfl EG (fun b o h => h.1) HSEQ.out (fun _ => rfl)
    (fun k W => StrI w xs n k W) (fun _ _ _ => False) ?hI ?hIx H0.out.2.1 (fun k => actS q w n k (gI xs k)) ?assign ?body ?done ?stop
  case hI => exact strI_own (by have := H0.out.1; omega)
  case hIx => rintro c s A C row h; exact h.elim
  case assign =>
    rintro l k Wq K hj hk hsz hK
    have HKK := Lib.hid (hK Wq (Below.refl _ _) hj)
    obtain ⟨x, hx⟩ : ∃ x, gI xs k = x := ⟨_, rfl⟩
    rw [hx] at HKK ⊢
    clear hj hK hx
    gi_wp2
    exact HKK.out
  case body =>
    rintro l k Wq hj hsz hk
    obtain ⟨hs0, hI0, hn, hn2⟩ := H0.out
    have b0 : Wq.cell? ⟨w.heap.size + 1, 0, none⟩ = some (.slice (some ⟨w.heap.size, 0, none⟩) n n) := by unfold World.cell?; rw [hj.box]; rfl
    have hkn : k < n := by omega
    have hkz : (k : Int) < (n : Int) := by omega
    have r0 : ∃ u, Wq.cell? ⟨w.heap.size, k, none⟩ = some u := by
      rw [rowO_cell hj.row k, List.getElem?_eq_getElem (by rw [str_len hn (by omega)]; omega)]
      exact ⟨_, rfl⟩
    obtain ⟨u, r0⟩ := r0
    have f0 := frozen_of_row _ w.heap.size k _ _ hj.row
    have HN := Lib.hid (And.intro (hj.next hk hn) (show ∀ b, b ≠ w.heap.size → (Wq.setCell ⟨w.heap.size, k, none⟩ (.int .i64 (gI xs k))).heap[b]? = Wq.heap[b]? from fun b hb => heap_setCell_other _ ⟨w.heap.size, k, none⟩ b _ hb))
    have HS := Lib.hid (And.intro hs0 hsz)
    obtain ⟨x, hx⟩ : ∃ x, gI xs k = x := ⟨_, rfl⟩
    rw [hx] at HN ⊢
    clear hj hs0 hI0 hn hn2 hsz hk hx hkn
    unfold actS
    gi_wp2
    refine ⟨⟨by simp, fun b o hb ho _ => (HN.out.2 b (by have := HS.out.1; omega)).trans ho⟩, ⟨by simp, fun b o hb ho => (HN.out.2 b (by have := hb.2; omega)).trans ho⟩, HN.out.1⟩
  case done =>
    rintro D W hD hj hdef
    have c0 : W.cell? ⟨w.heap.size + 1, 0, none⟩ = some (.slice (some ⟨w.heap.size, 0, none⟩) n n) := by unfold World.cell?; rw [hj.box]; rfl
    have H1 := Lib.hid (And.intro hj (And.intro hdef (show w.heap.size + 2 ≤ D from by have := H0.out.1; omega)))
    clear hj hdef hD
    gi_wp2
    obtain ⟨hj, hdef, hD⟩ := H1.out
    refine ⟨by simp, .inl ⟨_, _, rfl, run_takeDeferred hdef, ?_⟩⟩
    exact ⟨_, results_tmp rfl _ _ _, rfl, (World.putObj_heap_other (by omega)).trans hj.row, hj.below.os, hj.below.tape, hj.below.output, by have := hj.below.size; simpa using this, fun j hjj => (World.putObj_heap_other (by omega)).trans (hj.below.block j hjj)⟩
  case stop => exact fun D c k W _ _ h _ => h.elim
end Go.Proofs.Ytgolbeoaomgmcaa
