/-
  Clone and the stable sort at ints, as Put needs them, over this seat's translation. Conditions: those that each theorem states.
-/
import Derived.Test.YtfjipkkhjjpaiaaWeaveI
import Derived.Test.YtfjipkkhjjpaiaaBagNilI
namespace Go.Proofs.Ytfjipkkhjjpaiaa
open Go.RowKit Go.Shelf Go.Lib Go.Sort St

/-- A list in a slice: empty, or lying somewhere. -/
def InList {α : Type} (c : α → List Value) (W : World) (p : Option Addr) (ys : List α) : Prop :=
  ys = [] ∨ ∃ gl off, p = some ⟨gl, off, none⟩ ∧ ∀ j u, (ys.flatMap c)[j]? = some u → W.cell? ⟨gl, off + j, none⟩ = some u
theorem InList.below {α : Type} {c : α → List Value} {W W' : World} {p : Option Addr} {ys : List α} (h : InList c W p ys) (hb : Below W.heap.size W W') : InList c W' p ys := by
  rcases h with h | ⟨gl, off, e, h⟩
  · exact .inl h
  · exact .inr ⟨gl, off, e, fun j u hu => kc' hb (h j u hu)⟩
theorem below_sort {α : Type} [Inhabited α] (enc : α → Value) (w : World) (blk off n : Nat) (dk : Array α) (os : Array Obj) : Touch blk none w (sortWorld enc w blk off n dk os) := by
  refine ⟨rfl, rfl, rfl, ?_, fun k hk h1 _ => ?_⟩
  · simp [sortWorld, grow, putRow, mapBlock, Sort.ahead]
  · unfold sortWorld
    rw [heap_grow_old _ _ (by simp [putRow, mapBlock, Sort.ahead]; exact hk)]
    simp [putRow, mapBlock, Sort.ahead, Array.getElem?_modify, Ne.symm h1]
theorem flat_bang {α : Type} [Inhabited α] {c : α → List Value} {sz : Nat} (hc : ∀ x, (c x).length = sz) (h0 : 0 < sz) (zs : List α) (t : Nat) (ht : t < zs.length * sz) : (zs.flatMap c)[t]? = some (c zs.toArray[t / sz]!)[t % sz]! := by
  have hi : t / sz < zs.length := (Nat.div_lt_iff_lt_mul h0).2 ht
  have hj : t % sz < sz := Nat.mod_lt _ h0
  have h1 := flat_get hc zs (t / sz) (t % sz) hi hj
  rw [Nat.div_add_mod'] at h1
  rw [h1, getElem!_pos zs.toArray (t / sz) (by simpa using hi), List.getElem_toArray, getElem!_pos _ (t % sz) (by rw [hc]; exact hj), List.getElem?_eq_getElem]
theorem run_append_zero {P : Program} (w : World) (t ty e : TypeId) (i : TypeInfo) (size base : Nat) (ht : P.underlying t = some (.slice e)) (hi : P.info? e = some i)
    (v : Value) (n : Nat) (xs : List Value) (hown : w.ownsRow base e size v n xs) (a : Option Addr) (c : Nat) :
    (Builtin.append_ #[t, t] ty #[v, .slice a 0 c]).run P w = .ok v w := by
  have hl : ∀ (x : Addr), (loadCells x 0).run P w = .ok #[] w := fun x => by simpa using run_loadCells_list (P := P) w x [] (by simp)
  rcases hown.2 with ⟨rfl, rfl⟩ | ⟨g, cap, cur, rfl, _, _, hnc, _⟩
  · cases a <;> simp [Builtin.append_, run_underlying ht, sizeOf, typeInfo, hi, Builtin.lenOf, Builtin.firstCells, hl]
  · cases a <;> simp [Builtin.append_, run_underlying ht, sizeOf, typeInfo, hi, Builtin.lenOf, Builtin.firstCells, hnc, storeCells, hl]
theorem exec_append {P : Program} {o : Oper} {a : Act} {w w' : World} (s x : Operand) (t : TypeId) (ho : o.op = .call { callee := .builtin .append, args := #[s, x], argTypes := #[t, t] })
    {v1 v2 v' : Value} (hs : a.eval s = v1) (hx : a.eval x = v2) (hr : (Builtin.append_ #[t, t] o.type #[v1, v2]).run P w = .ok v' w') : (execOp a.eval o).run P w = .ok (.value v') w' := by
  simp [execOp, ho, resolve, invoke, builtin, hs, hx, hr, Result.andThen]
theorem pair_of_srt {α : Type} [Inhabited α] {key : α → Int} {d : Array α} (h : Srt key 0 d.size d) : d.toList.Pairwise (fun x y => key x ≤ key y) := by
  rw [List.pairwise_iff_getElem]
  intro i j hi hj hij
  have h1 : i < d.size := by simpa using hi
  have h2 : j < d.size := by simpa using hj
  have := h i j (Nat.zero_le _) hij h2
  rw [getElem!_pos d i h1, getElem!_pos d j h2] at this
  simpa using this

theorem appendEmpty_I (w : World) (d a : Addr) (cap c : Nat) : (Builtin.append_ #[22, 22] 22 #[.slice (some d) 0 cap, .slice (some a) 0 c]).run Try.prog w = .ok (.slice (some d) 0 cap) w := by
  obtain ⟨i0, hi0, _⟩ := info_parts infoI
  have hl : ∀ (x : Addr), (loadCells x 0).run Try.prog w = .ok #[] w := fun x => by simpa using run_loadCells_list (P := Try.prog) w x [] (by simp)
  simp [Builtin.append_, run_underlying Try.underlying22, sizeOf, typeInfo, hi0, Builtin.lenOf, Builtin.firstCells, hl, storeCells]
set_option maxHeartbeats 1000000 in
set_option maxRecDepth 100000 in
theorem cloneEmpty_I (a : Addr) (cl : Nat) (w : World) :
    Calls Try.prog 39 #[.slice (some a) 0 cl] w fun e w' => Below w.heap.size w w' ∧ ∃ pa ca, e = .returned (.slice pa 0 ca) := by
  have HB := Lib.hid (show Below w.heap.size w (w.alloc (.cells #[] 3)) from bA' (Below.refl _ _) (Nat.le_refl _) _)
  have hne : ∀ w : World, (binOp BinOp.eql 22 (.slice (some a) 0 cl) (.slice none 0 0)).run Try.prog w = .ok (.bool false) w := fun _ => by kernel_rfl
  have hrun := appendEmpty_I (w.alloc (.cells #[] 3)) ⟨w.heap.size, 0, none⟩ a 0 cl
  go_enter Try.func39, Try.ntmps39
  go_wp2
  go_ret
  exact ⟨HB.out, _, _, rfl⟩
theorem row_base {w : World} {B e size n : Nat} {v : Value} {xs : List Value} (h : w.ownsRow B e size v n xs) : w.ownsRow 0 e size v n xs := by
  refine ⟨h.1, ?_⟩
  rcases h.2 with h3 | ⟨g, cap, cur, e, hB, rest⟩
  · exact .inl h3
  · exact .inr ⟨g, cap, cur, e, Nat.zero_le _, rest⟩

set_option maxHeartbeats 1000000 in
theorem clone_I (pl : Option Addr) (cl : Nat) (ys : List Int) (w : World) (hy : InList cI w pl ys) (hlen : ys.length ≤ 1000000) :
    Calls Try.prog 39 #[.slice pl ys.length cl] w fun e w' => Below w.heap.size w w' ∧ ∃ pa ca, e = .returned (.slice pa ys.length ca) ∧ (0 < ys.length → ∃ ga, pa = some ⟨ga, 0, none⟩ ∧ w.heap.size ≤ ga ∧ RowIs cI 1 3 ga ys.length ca w' ys) := by
  rcases hy with rfl | ⟨gl, off, rfl, hc⟩
  · cases pl with
    | none =>
      refine (AnyE.slices_Clone_nil Try.laysCloneI _ _ w).mono ?_
      rintro e w' ⟨rfl, rfl⟩
      exact ⟨Below.refl _ _, none, 0, rfl, fun h => absurd h (Nat.lt_irrefl 0)⟩
    | some a =>
      refine (cloneEmpty_I a cl w).mono ?_
      rintro e w' ⟨hb, pa, ca, rfl⟩
      exact ⟨hb, pa, ca, rfl, fun h => absurd h (Nat.lt_irrefl 0)⟩
  · obtain ⟨i0, hi0, hz0, hz1, hz2⟩ := info_parts infoI
    refine (AnyE.slices_Clone Try.laysCloneI i0 (.int .i64 0) 1 8 hi0 hz0 hz1 hz2 rfl (by decide) (fun w => by first | exact Try.sizeOf3 w | exact Try.sizeOf3 _ w) gl off ys.length cl (ys.flatMap cI) w (flat_len cI_len ys) (by unfold maxLen; omega) (by omega) hc (fun u hu => by
      obtain ⟨x, _, hx⟩ := List.mem_flatMap.1 hu
      exact cI_one x u hx)).mono ?_
    rintro e w' ⟨v', rfl, hown, _, hb⟩
    refine ⟨hb, ?_⟩
    rcases id hown.2 with ⟨rfl, e0⟩ | ⟨g, cap, cur, rfl, hB, _⟩
    · exact ⟨none, 0, by rw [e0], fun h => by omega⟩
    · exact ⟨some ⟨g, 0, none⟩, cap, rfl, fun _ => ⟨g, rfl, hB, rfl, row_base hown⟩⟩

theorem sort_I (ga ca : Nat) (ys : List Int) (w : World) (hrow : RowIs cI 1 3 ga ys.length ca w ys) (hlen : ys.length ≤ 1000000) :
    Calls Try.prog 51 #[.slice (some ⟨ga, 0, none⟩) ys.length ca, .func (.func 11) #[] #[]] w fun e w' => e = .returned (.tuple #[]) ∧ ∃ zs : List Int, zs.length = ys.length ∧ zs.Pairwise (fun x y => (fun x : Int => x) x ≤ (fun x : Int => x) y) ∧ (∀ k : Int, zs.filter (fun x => (fun x : Int => x) x == k) = ys.filter (fun x => (fun x : Int => x) x == k)) ∧
      (∀ j u, (zs.flatMap cI)[j]? = some u → w'.cell? ⟨ga, j, none⟩ = some u) ∧ Touch ga none w w' := by
  obtain ⟨cur, w1, w2, w3, w4, w5⟩ := hrow.whole
  have hblk := (Array.getElem?_eq_some_iff.1 w1).1
  have eg : ∀ args w, (callFunc 11 args).run Try.prog w = .ok (.enter 11 args) w := enters_of Try.func11 (by kernel_rfl) rfl
  have hfl := flat_len cI_len ys
  have R : Row1 (Value.int .i64) w ga 0 ys.toArray := ⟨fun _ => rfl, fun j hj => by
    have hj' : j < ys.length := by simpa using hj
    rw [Nat.zero_add, hrow.row.cellAt j (by omega), flat_bang cI_len (by decide) ys j (by omega)]
    refine ⟨?_, hrow.row.frozenAt j⟩
    rw [Nat.div_one, Nat.mod_one]
    rfl, hblk⟩
  have K := sortStable_I 11 #[] eg (cf := cmpI) (key := fun x => x) cmpI_lt ga 0 ca ys.toArray w (by simpa using hlen) (fun m os dk hs x y => by simpa using order_g x y _) R
  simp only [List.size_toArray] at K
  refine K.mono ?_
  rintro e w' ⟨rfl, d', hstb, hsrt, hsw⟩
  have hsz : d'.size = ys.length := by simpa using hstb.1
  have hH := hsw.holds hblk R.hH (by simpa using hsz)
  refine ⟨rfl, d'.toList, by simpa using hsz, pair_of_srt (hsz ▸ hsrt), hstb.2, fun j u hu => ?_, ?_⟩
  · have hj : j < d'.size := by
      have := (List.getElem?_eq_some_iff.1 hu).1
      rw [flat_len cI_len, Array.length_toList] at this
      omega
    have h1 := (hH j hj).1
    rw [Nat.zero_add] at h1
    rw [flat_bang cI_len (by decide) d'.toList j (by rw [Array.length_toList]; omega), Nat.div_one, Nat.mod_one] at hu
    rw [h1]
    exact hu
  · obtain ⟨n, os, rfl⟩ := hsw
    exact below_sort (Value.int .i64) w ga 0 n d' os
end Go.Proofs.Ytfjipkkhjjpaiaa
