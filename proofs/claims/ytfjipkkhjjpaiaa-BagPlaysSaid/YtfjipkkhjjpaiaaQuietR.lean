/-
  A region that draws its order, of which all operations but one read, and that one comes last: it runs as in one order, inside any fence that lets every function by, in a round too. No condition but those that each theorem states.
-/
import Derived.Test.YtfjipkkhjjpaiaaRoundR
namespace Go.Proofs.Ytfjipkkhjjpaiaa
open Go.RowKit

namespace Qt
def deps (ops : Array Oper) (i : Nat) : List Nat := match ops[i]? with | some o => (o.after.toList.filter (Region.binds .any)).map (·.on) | none => []
def closeup (ops : Array Oper) : Nat → List Nat → List Nat
  | 0, l => l
  | k + 1, l => closeup ops k ((List.range ops.size).filter fun j => l.contains j || l.any fun i => (deps ops i).contains j)
def tmpsOf (o : Oper) : List Tmp := o.op.operands.toList.filterMap fun | .tmp t => some t | _ => none
def plain (o : Oper) : Bool := o.guard.isNone && (match o.op with | .defer _ => false | .select _ _ => false | _ => true)
def pairOk (ops : Array Oper) (L i : Nat) (o : Oper) (j : Nat) : Bool := match ops[j]? with
  | none => true
  | some p => match p.dst with
    | none => true
    | some d => (i == j || o.dst != some d) && (!(tmpsOf o).contains d || ((deps ops i).contains j && j != L))
def quiet (ops : Array Oper) (L : Nat) : Bool := (List.range ops.size).all fun i => match ops[i]? with
  | none => true
  | some o => plain o && (deps ops i).all (· < i) && (i == L || (closeup ops ops.size (deps ops L)).contains i) && (List.range ops.size).all (pairOk ops L i o)

structure QSpec (ops : Array Oper) (L : Nat) : Prop where
  guard : ∀ (i : Nat) (o : Oper), ops[i]? = some o → o.guard = none
  nodefer : ∀ (i : Nat) (o : Oper), ops[i]? = some o → ∀ c, o.op ≠ .defer c
  nosel : ∀ (i : Nat) (o : Oper), ops[i]? = some o → ∀ cs b, o.op ≠ .select cs b
  lower : ∀ (i : Nat) (o : Oper), ops[i]? = some o → ∀ j, j ∈ deps ops i → j < i
  all : ∀ (i : Nat) (o : Oper), ops[i]? = some o → i = L ∨ i ∈ closeup ops ops.size (deps ops L)
  apart : ∀ (i : Nat) (o : Oper), ops[i]? = some o → ∀ (j : Nat) (p : Oper) (d : Nat), ops[j]? = some p → p.dst = some d → i = j ∨ o.dst ≠ some d
  reads : ∀ (i : Nat) (o : Oper), ops[i]? = some o → ∀ (j : Nat) (p : Oper) (d : Nat), ops[j]? = some p → p.dst = some d → d ∈ tmpsOf o → j ∈ deps ops i ∧ j ≠ L

theorem spec_of {ops : Array Oper} {L : Nat} (h : quiet ops L = true) : QSpec ops L := by
  have h1 : ∀ (i : Nat) (o : Oper), ops[i]? = some o → plain o = true ∧ (∀ j, j ∈ deps ops i → j < i) ∧ (i = L ∨ i ∈ closeup ops ops.size (deps ops L)) ∧ ∀ j, j < ops.size → pairOk ops L i o j = true := by
    intro i o ho
    unfold quiet at h
    rw [List.all_eq_true] at h
    have h2 := h i (List.mem_range.2 (Array.getElem?_eq_some_iff.1 ho).1)
    rw [ho] at h2
    simp only [Bool.and_eq_true, List.all_eq_true, List.mem_range, Bool.or_eq_true, beq_iff_eq, decide_eq_true_iff, List.contains_iff_mem] at h2
    exact ⟨h2.1.1.1, h2.1.1.2, h2.1.2, h2.2⟩
  have h3 : ∀ (i : Nat) (o : Oper), ops[i]? = some o → ∀ (j : Nat) (p : Oper) (d : Nat), ops[j]? = some p → p.dst = some d → (i = j ∨ o.dst ≠ some d) ∧ (d ∈ tmpsOf o → j ∈ deps ops i ∧ j ≠ L) := by
    intro i o ho j p d hp hd
    have h4 := (h1 i o ho).2.2.2 j (Array.getElem?_eq_some_iff.1 hp).1
    unfold pairOk at h4
    rw [hp] at h4
    simp only [hd, Bool.and_eq_true, Bool.or_eq_true, beq_iff_eq, bne_iff_ne, ne_eq, Bool.not_eq_true', List.contains_iff_mem] at h4
    refine ⟨h4.1, fun hm => ?_⟩
    rcases h4.2 with h5 | h5
    · have : (tmpsOf o).contains d = true := List.contains_iff_mem.2 hm
      rw [this] at h5
      cases h5
    · exact h5
  refine ⟨fun i o ho => ?_, fun i o ho c hc => ?_, fun i o ho cs b hc => ?_, fun i o ho => (h1 i o ho).2.1, fun i o ho => (h1 i o ho).2.2.1, fun i o ho j p d hp hd => (h3 i o ho j p d hp hd).1, fun i o ho j p d hp hd => (h3 i o ho j p d hp hd).2⟩
  · have := (h1 i o ho).1
    unfold plain at this
    simp only [Bool.and_eq_true] at this
    exact Option.isNone_iff_eq_none.1 this.1
  · have := (h1 i o ho).1
    unfold plain at this
    rw [hc] at this
    simp at this
  · have := (h1 i o ho).1
    unfold plain at this
    rw [hc] at this
    simp at this

theorem closeup_listed {ops : Array Oper} {p : Nat → Prop} (hp : ∀ i, p i → ∀ j, j ∈ deps ops i → p j) : ∀ k l, (∀ i ∈ l, p i) → ∀ i ∈ closeup ops k l, p i
  | 0, _, h => h
  | k + 1, l, h => closeup_listed hp k _ fun i hi => by
    have := (List.mem_filter.1 hi).2
    simp only [Bool.or_eq_true, List.contains_iff_mem, List.any_eq_true] at this
    rcases this with h1 | ⟨j, hj, h2⟩
    · exact h i h1
    · exact hp j (h j hj) i h2

theorem cnt_lt {p q : Nat → Bool} : ∀ (l : List Nat) (_ : ∀ x, q x = true → p x = true) (i : Nat) (_ : i ∈ l) (_ : p i = true) (_ : q i = false), l.countP q < l.countP p
  | x :: l, h, i, hi, h1, h2 => by
    have hle : l.countP q ≤ l.countP p := List.countP_mono_left fun y _ hy => h y hy
    rw [List.countP_cons, List.countP_cons]
    rcases List.mem_cons.1 hi with rfl | hm
    · rw [h1, h2]
      simp
      omega
    · have := cnt_lt l h i hm h1 h2
      by_cases hq : q x = true
      · rw [hq, h x hq]
        simp
        omega
      · rw [show q x = false from by simpa using hq]
        simp
        omega

/-- How the slots stand where some of the operations are done. -/
structure Fits (ops : Array Oper) (vals : Nat → Value) (base : Act) (listed : Array Bool) (a : Act) : Prop where
  defers : a.defers = base.defers
  size : a.tmps.size = base.tmps.size
  done : ∀ (i : Nat) (o : Oper), ops[i]? = some o → listed.getD i false = true → ∀ d, o.dst = some d → d < base.tmps.size → a.tmps.getD d undef = vals i
  left : ∀ t, (∀ (i : Nat) (o : Oper), ops[i]? = some o → o.dst = some t → listed.getD i false = false) → a.tmps.getD t undef = base.tmps.getD t undef
theorem getD_put {a : Act} {d t : Nat} {v : Value} : (a.put (some d) v).tmps.getD t undef = if d = t ∧ d < a.tmps.size then v else a.tmps.getD t undef := by
  show (a.tmps.setIfInBounds d v).getD t undef = _
  by_cases h : d = t
  · subst h
    by_cases hl : d < a.tmps.size
    · rw [if_pos ⟨rfl, hl⟩]
      simp [Array.getD_eq_getD_getElem?, hl]
    · rw [if_neg (fun h => hl h.2)]
      simp [Array.getD_eq_getD_getElem?, hl]
  · rw [if_neg (fun h' => h h'.1)]
    simp [Array.getD_eq_getD_getElem?, Array.getElem?_setIfInBounds_ne h]
theorem Fits.put {ops : Array Oper} {L : Nat} (hS : QSpec ops L) {vals : Nat → Value} {base : Act} {listed : Array Bool} {a : Act} (h : Fits ops vals base listed a) {i : Nat} {o : Oper} (ho : ops[i]? = some o) (hl : i < listed.size) :
    Fits ops vals base (listed.setIfInBounds i true) (a.put o.dst (vals i)) := by
  cases hd : o.dst with
  | none =>
    refine ⟨h.defers, h.size, fun j p hp hj d hpd hlt => ?_, fun t ht => h.left t fun j p hp hpd => ?_⟩
    · by_cases e : i = j
      · subst e
        rw [ho] at hp
        cases hp
        rw [hd] at hpd
        cases hpd
      · rw [getD_set_ne false e] at hj
        exact h.done j p hp hj d hpd hlt
    · by_cases e : i = j
      · subst e
        rw [ho] at hp
        cases hp
        rw [hd] at hpd
        cases hpd
      · have := ht j p hp hpd
        rwa [getD_set_ne false e] at this
  | some d0 =>
    refine ⟨h.defers, by show (a.tmps.setIfInBounds d0 (vals i)).size = _; simp [h.size], fun j p hp hj d hpd hlt => ?_, fun t ht => ?_⟩
    · rw [getD_put]
      by_cases e : i = j
      · subst e
        rw [ho] at hp
        cases hp
        rw [hd] at hpd
        cases hpd
        rw [if_pos ⟨rfl, by rw [h.size]; exact hlt⟩]
      · rw [getD_set_ne false e] at hj
        rw [if_neg, h.done j p hp hj d hpd hlt]
        rintro ⟨rfl, _⟩
        rcases hS.apart i o ho j p d0 hp hpd with e2 | e2
        · exact e e2
        · exact e2 hd
    · rw [getD_put, if_neg]
      · refine h.left t fun j p hp hpd => ?_
        by_cases e : i = j
        · subst e
          have := ht i p hp hpd
          simp [hl] at this
        · have := ht j p hp hpd
          rwa [getD_set_ne false e] at this
      · rintro ⟨rfl, _⟩
        have := ht i o ho hd
        simp [hl] at this
/-- All but the last. -/
def butL (n L : Nat) : Array Bool := Array.ofFn (n := n) fun i => i.1 != L
theorem butL_getD {n L i : Nat} : (butL n L).getD i false = (decide (i < n) && i != L) := by
  unfold butL
  by_cases h : i < n
  · simp [Array.getD_eq_getD_getElem?, h]
  · simp [Array.getD_eq_getD_getElem?, h]
theorem Fits.ext {ops : Array Oper} {vals : Nat → Value} {base : Act} {l l' : Array Bool} {a a' : Act} (h : Fits ops vals base l a) (h' : Fits ops vals base l' a') (hl : ∀ (i : Nat) (o : Oper), ops[i]? = some o → l.getD i false = l'.getD i false) : a = a' := by
  have hs : a.tmps.size = a'.tmps.size := h.size.trans h'.size.symm
  have ht : a.tmps = a'.tmps := by
    apply Array.ext hs
    intro t h1 h2
    have e1 : a.tmps.getD t undef = a.tmps[t] := by simp [Array.getD_eq_getD_getElem?, h1]
    have e2 : a'.tmps.getD t undef = a'.tmps[t] := by simp [Array.getD_eq_getD_getElem?, h2]
    rw [← e1, ← e2]
    by_cases hx : ∃ (i : Nat) (o : Oper), ops[i]? = some o ∧ o.dst = some t ∧ l.getD i false = true
    · obtain ⟨i, o, ho, hd, hli⟩ := hx
      rw [h.done i o ho hli t hd (by rw [← h.size]; exact h1), h'.done i o ho (by rw [← hl i o ho]; exact hli) t hd (by rw [← h.size]; exact h1)]
    · have hx' : ∀ (i : Nat) (o : Oper), ops[i]? = some o → o.dst = some t → l.getD i false = false := fun i o ho hd => by
        cases hb : l.getD i false with
        | false => rfl
        | true => exact absurd ⟨i, o, ho, hd, hb⟩ hx
      rw [h.left t hx', h'.left t fun i o ho hd => by rw [← hl i o ho]; exact hx' i o ho hd]
  cases a
  cases a'
  simp only [Act.mk.injEq]
  exact ⟨ht, h.defers.trans h'.defers.symm⟩
theorem Fits.eval {ops : Array Oper} {L : Nat} (hS : QSpec ops L) {vals : Nat → Value} {base full : Act} {listed : Array Bool} {a : Act} (h : Fits ops vals base listed a) (hf : Fits ops vals base (butL ops.size L) full)
    {i : Nat} {o : Oper} (ho : ops[i]? = some o) (hr : ∀ j ∈ deps ops i, listed.getD j false = true) : ∀ x ∈ o.op.operands, a.eval x = full.eval x := by
  intro x hx
  cases x with
  | tmp t =>
    show a.tmps.getD t undef = full.tmps.getD t undef
    have htm : t ∈ tmpsOf o := List.mem_filterMap.2 ⟨.tmp t, by simpa using hx, rfl⟩
    by_cases hx : ∃ (j : Nat) (p : Oper), ops[j]? = some p ∧ p.dst = some t
    · obtain ⟨j, p, hp, hd⟩ := hx
      obtain ⟨hj, hjL⟩ := hS.reads i o ho j p t hp hd htm
      by_cases hlt : t < base.tmps.size
      · rw [h.done j p hp (hr j hj) t hd hlt, hf.done j p hp (by rw [butL_getD]; simp [hjL, (Array.getElem?_eq_some_iff.1 hp).1]) t hd hlt]
      · have e1 : a.tmps.size ≤ t := by rw [h.size]; exact Nat.le_of_not_lt hlt
        have e2 : full.tmps.size ≤ t := by rw [hf.size]; exact Nat.le_of_not_lt hlt
        simp [Array.getD_eq_getD_getElem?, Array.getElem?_eq_none e1, Array.getElem?_eq_none e2]
    · have hx' : ∀ (j : Nat) (p : Oper), ops[j]? = some p → p.dst = some t → False := fun j p hp hd => hx ⟨j, p, hp, hd⟩
      rw [h.left t fun j p hp hd => (hx' j p hp hd).elim, hf.left t fun j p hp hd => (hx' j p hp hd).elim]
  | const v => rfl
  | global g => rfl
  | func f => rfl

/-- Some operation is ready while one is left. -/
theorem some_ready {ops : Array Oper} {L : Nat} (hS : QSpec ops L) {listed : Array Bool} (hsz : listed.size = ops.size) : ∀ (i : Nat), i < ops.size → listed.getD i false = false → Region.ready .any ops listed ≠ [] := by
  intro i
  induction i using Nat.strongRecOn with
  | ind i ih =>
    intro hi hli
    by_cases hd : ∃ j ∈ deps ops i, listed.getD j false = false
    · obtain ⟨j, hj, hjl⟩ := hd
      have hlt := hS.lower i ops[i] (Array.getElem?_eq_getElem hi) j hj
      exact ih j hlt (by omega) hjl
    · intro hnil
      have : i ∈ Region.ready .any ops listed := mem_ready.2 ⟨by
        have : i < listed.size := by omega
        simpa [Array.getD_eq_getD_getElem?, this] using hli, ops[i], Array.getElem?_eq_getElem hi, fun e he hb => by
          cases hx : listed.getD e.on false with
          | true => rfl
          | false => exact absurd ⟨e.on, by
              unfold deps
              rw [Array.getElem?_eq_getElem hi]
              exact List.mem_map.2 ⟨e, List.mem_filter.2 ⟨by simpa using he, hb⟩, rfl⟩, hx⟩ hd⟩
      rw [hnil] at this
      cases this

theorem any_last {F : Fence} {n : Nat} {P : Program} {ops : Array Oper} {Q : Exit → Act → World → Prop} {listed : Array Bool} {a : Act} {w : World} (hsz : listed.size = ops.size) (hall : ∀ i, i < ops.size → listed.getD i false = true) (h : Q .normal a w) : ∀ fuel, wpAnyIn F n P .any ops Q fuel listed a w := by
  have hr : Region.ready .any ops listed = [] := by
    apply List.eq_nil_iff_forall_not_mem.2
    intro i hi
    obtain ⟨h1, o, ho, _⟩ := mem_ready.1 hi
    have hlt := (Array.getElem?_eq_some_iff.1 ho).1
    have := hall i hlt
    have hl2 : i < listed.size := by omega
    simp only [Array.getD_eq_getD_getElem?, Array.getElem?_eq_getElem hl2, Option.getD_some] at h1 this
    rw [h1] at this
    cases this
  intro fuel
  cases fuel with
  | zero => exact ⟨hr, h⟩
  | succ k => exact ⟨fun _ => h, fun i hi => by rw [hr] at hi; cases hi⟩

theorem any_quiet {F : Fence} (hF : ∀ f, F.fn f) {n : Nat} {P : Program} {ops : Array Oper} {Q : Exit → Act → World → Prop} {L : Nat} (hS : QSpec ops L) {oL : Oper} (hoL : ops[L]? = some oL) (vals : Nat → Value) {base full : Act} (hf : Fits ops vals base (butL ops.size L) full) {w : World}
    (hv : ∀ (i : Nat) (o : Oper), i ≠ L → ops[i]? = some o → (execOp full.eval o).run P w = .ok (.value (vals i)) w)
    (hL : oL.wpIn F n P full w (fun a' w' => Q .normal a' w') Q) : ∀ (fuel : Nat) (listed : Array Bool) (a : Act), listed.size = ops.size → (List.range ops.size).countP (fun i => !listed.getD i false) ≤ fuel →
      (∀ i, listed.getD i false = true → ∀ j ∈ deps ops i, listed.getD j false = true) → listed.getD L false = false → Fits ops vals base listed a → wpAnyIn F n P .any ops Q fuel listed a w
  | 0, listed, a, hsz, hc, hcl, hLn, hfit => by
    exfalso
    have hLlt := (Array.getElem?_eq_some_iff.1 hoL).1
    have h0 : (List.range ops.size).countP (fun i => !listed.getD i false) = 0 := by omega
    rw [List.countP_eq_zero] at h0
    have := h0 L (List.mem_range.2 hLlt)
    rw [hLn] at this
    exact this rfl
  | fuel + 1, listed, a, hsz, hc, hcl, hLn, hfit => by
    have hLlt := (Array.getElem?_eq_some_iff.1 hoL).1
    refine ⟨fun h => absurd h (some_ready hS hsz L hLlt hLn), fun i hi => ?_⟩
    obtain ⟨h1, o, ho, hdeps⟩ := mem_ready.1 hi
    have hilt := (Array.getElem?_eq_some_iff.1 ho).1
    have hils : i < listed.size := by omega
    have h1' : listed.getD i false = false := by
      simpa [Array.getD_eq_getD_getElem?, hils] using h1
    have hd : ∀ j ∈ deps ops i, listed.getD j false = true := by
      intro j hj
      unfold deps at hj
      rw [ho] at hj
      obtain ⟨e, he, rfl⟩ := List.mem_map.1 hj
      obtain ⟨he1, he2⟩ := List.mem_filter.1 he
      exact hdeps e (by simpa using he1) he2
    have hev := hfit.eval hS hf ho hd
    have hex : execOp a.eval o = execOp full.eval o := execOp_congr o (hS.nosel i o ho) hev
    have hw : Region.wanted o (yielded ops a.tmps) = true := by simp [Region.wanted, hS.guard i o ho]
    unfold wpOpIn
    rw [ho]
    simp only [hw, if_true]
    have hcl' : ∀ k, (listed.setIfInBounds i true).getD k false = true → ∀ j ∈ deps ops k, (listed.setIfInBounds i true).getD j false = true := by
      intro k hk j hj
      by_cases e : i = k
      · subst e
        exact getD_set_true (hd j hj)
      · rw [getD_set_ne false e] at hk
        exact getD_set_true (hcl k hk j hj)
    by_cases hiL : i = L
    · subst hiL
      have hall : ∀ k, k < ops.size → k ≠ i → listed.getD k false = true := by
        intro k hk hne
        rcases hS.all k ops[k] (Array.getElem?_eq_getElem hk) with e | hm
        · exact absurd e hne
        · exact closeup_listed (p := fun k => listed.getD k false = true) hcl _ _ hd k hm
      have hafull : a = full := hfit.ext hf fun k p hp => by
        rw [butL_getD]
        have hklt := (Array.getElem?_eq_some_iff.1 hp).1
        by_cases e : k = i
        · subst e
          rw [h1']
          simp
        · rw [hall k hklt e]
          simp [hklt, e]
      subst hafull
      rw [hoL] at ho
      cases ho
      refine Oper.wpIn_mono (fun a' w' h => any_last (by simpa using hsz) (fun k hk => ?_) h fuel) hL
      by_cases e : i = k
      · subst e
        simp [Array.getD_eq_getD_getElem?, hils]
      · rw [getD_set_ne false e]
        exact hall k hk fun h => e h.symm
    · have hrun := hv i o hiL ho
      rw [← hex] at hrun
      unfold Oper.wpIn
      refine ⟨fun f _ => hF f, ?_⟩
      rw [Oper.semAt_plain F _ _ (hS.nodefer i o ho), hrun]
      show wpAnyIn _ _ _ _ _ _ _ _ _ _
      refine any_quiet hF hS hoL vals hf hv hL fuel _ _ (by simpa using hsz) ?_ hcl' (by rw [getD_set_ne false hiL]; exact hLn) (hfit.put hS ho hils)
      have := cnt_lt (p := fun k => !listed.getD k false) (q := fun k => !(listed.setIfInBounds i true).getD k false) (List.range ops.size) (fun k hk => by
        cases hx : listed.getD k false with
        | false => rfl
        | true =>
          rw [getD_set_true hx] at hk
          cases hk) i (List.mem_range.2 hilt) (by rw [h1']; rfl) (by simp [Array.getD_eq_getD_getElem?, hils])
      omega

/-- The slots with all that is read laid in. -/
def laid : List Oper → List Value → Act → Act
  | o :: os, v :: vs, a => laid os vs (a.put o.dst v)
  | _, _, a => a
theorem laid_fits {ops : Array Oper} {L : Nat} (hS : QSpec ops L) (vs : List Value) {base : Act} : ∀ (os : List Oper) (us : List Value) (k : Nat) (listed : Array Bool) (a : Act), (∀ (i : Nat) (o : Oper), os[i]? = some o → ops[k + i]? = some o) → (∀ (i : Nat) (v : Value), us[i]? = some v → vs[k + i]? = some v) → os.length = us.length → listed.size = ops.size →
    Fits ops (fun i => vs.getD i undef) base listed a → ∃ l', l'.size = ops.size ∧ (∀ j, l'.getD j false = (listed.getD j false || (decide (k ≤ j) && decide (j < k + os.length)))) ∧ Fits ops (fun i => vs.getD i undef) base l' (laid os us a)
  | [], [], k, listed, a, _, _, _, hsz, h => ⟨listed, hsz, fun j => by
      have : (decide (k ≤ j) && decide (j < k + 0)) = false := by
        by_cases h1 : k ≤ j
        · simp [h1]
        · simp [h1]
      simp only [List.length_nil]
      rw [this, Bool.or_false], h⟩
  | [], _ :: _, _, _, _, _, _, hl, _, _ => by simp at hl
  | _ :: _, [], _, _, _, _, _, hl, _, _ => by simp at hl
  | o :: os, v :: us, k, listed, a, h1, h2, hl, hsz, h => by
    have ho : ops[k]? = some o := h1 0 o rfl
    have hklt := (Array.getElem?_eq_some_iff.1 ho).1
    have hvk : vs.getD k undef = v := by
      have := h2 0 v rfl
      simp only [Nat.add_zero] at this
      simp [List.getD_eq_getElem?_getD, this]
    have hp := h.put hS ho (by omega)
    simp only [hvk] at hp
    obtain ⟨l', s1, s2, s3⟩ := laid_fits hS vs os us (k + 1) _ _ (fun i o' hi => by have := h1 (i + 1) o' hi; rwa [show k + 1 + i = k + (i + 1) from by omega]) (fun i v' hi => by have := h2 (i + 1) v' hi; rwa [show k + 1 + i = k + (i + 1) from by omega]) (by simpa using hl) (by simpa using hsz) hp
    refine ⟨l', s1, fun j => ?_, s3⟩
    rw [s2 j]
    by_cases e : k = j
    · subst e
      have : k < listed.size := by omega
      simp [Array.getD_eq_getD_getElem?, this]
    · rw [getD_set_ne false e]
      have : (decide (k + 1 ≤ j) && decide (j < k + 1 + os.length)) = (decide (k ≤ j) && decide (j < k + (o :: os).length)) := by
        rw [Bool.eq_iff_iff]
        simp only [Bool.and_eq_true, decide_eq_true_iff, List.length_cons]
        omega
      rw [this]
theorem laid_take : ∀ (os : List Oper) (vs : List Value) (a : Act), laid (os.take vs.length) vs a = laid os vs a
  | [], [], _ => rfl
  | [], _ :: _, _ => rfl
  | _ :: _, [], _ => rfl
  | _ :: os, _ :: vs, _ => laid_take os vs _
/-- Each of these operations reads its value. -/
def reads (P : Program) (ρ : Operand → Value) (w : World) : List Oper → List Value → Prop
  | o :: os, v :: vs => (execOp ρ o).run P w = .ok (.value v) w ∧ reads P ρ w os vs
  | _, _ => True
theorem reads_at {P : Program} {ρ : Operand → Value} {w : World} : ∀ {os : List Oper} {vs : List Value}, reads P ρ w os vs → ∀ (i : Nat) (o : Oper) (v : Value), os[i]? = some o → vs[i]? = some v → (execOp ρ o).run P w = .ok (.value v) w
  | [], _, _, i, o, v, h, _ => by cases h
  | _ :: _, [], _, i, o, v, _, h => by cases h
  | o' :: os, v' :: vs, ⟨h1, h2⟩, 0, o, v, ho, hv => by cases ho; cases hv; exact h1
  | o' :: os, v' :: vs, ⟨h1, h2⟩, i + 1, o, v, ho, hv => reads_at h2 i o v ho hv
end Qt
open Qt
/-- SUCH A REGION: each reading is one fact of the world at hand. -/
theorem region_quiet {F : Fence} (hF : ∀ f, F.fn f) {n : Nat} {P : Program} {id : Nat} {ops : Array Oper} {oL : Oper} {Q : Exit → Act → World → Prop} {a : Act} {w : World} (vs : List Value) (full : Act) (hm : P.follows .mixedOrders = true)
    (hq : quiet ops vs.length = true) (hl : ops.size = vs.length + 1) (hoL : ops[vs.length]? = some oL) (hfull : laid ops.toList vs a = full)
    (hv : reads P full.eval w.drew ops.toList vs)
    (hL : oL.wpIn F n P full w.drew (fun a' w' => Q .normal a' w') Q) : (Code.region id ops true).wpIn F n P Q a w := by
  have hS := spec_of hq
  subst hfull
  refine wpIn_region_any hm ?_
  change wpAnyIn _ _ _ _ _ _ _ _ _ w.drew
  have hof : ∀ j, (Array.replicate ops.size false).getD j false = false := by
    intro j
    simp only [Array.getD_eq_getD_getElem?, Array.getElem?_replicate]
    split <;> rfl
  have h0 : Fits ops (fun i => vs.getD i undef) a (Array.replicate ops.size false) a := ⟨rfl, rfl, fun i o _ hi => (by rw [hof] at hi; cases hi), fun t _ => rfl⟩
  have htl : (ops.toList.take vs.length).length = vs.length := by
    have : ops.toList.length = ops.size := Array.length_toList
    rw [List.length_take, this, hl]
    omega
  obtain ⟨l', s1, s2, s3⟩ := laid_fits hS vs (ops.toList.take vs.length) vs 0 _ _ (fun i o hi => by
    rw [Nat.zero_add]
    rw [List.getElem?_take] at hi
    split at hi
    · simpa using hi
    · cases hi) (fun i v hi => by rw [Nat.zero_add]; exact hi) htl (by simp) h0
  rw [laid_take] at s3
  rw [htl] at s2
  have hf : Fits ops (fun i => vs.getD i undef) a (butL ops.size vs.length) (laid ops.toList vs a) := by
    have hll : ∀ j, j < ops.size → (butL ops.size vs.length).getD j false = l'.getD j false := by
      intro j hj
      rw [s2 j, hof, butL_getD, Bool.eq_iff_iff]
      simp only [Bool.false_or, Bool.and_eq_true, decide_eq_true_iff, bne_iff_ne]
      omega
    exact ⟨s3.defers, s3.size, fun i o ho hi => s3.done i o ho (by rw [← hll i (Array.getElem?_eq_some_iff.1 ho).1]; exact hi), fun t ht => s3.left t fun i o ho hd => by rw [← hll i (Array.getElem?_eq_some_iff.1 ho).1]; exact ht i o ho hd⟩
  refine any_quiet hF hS hoL (fun i => vs.getD i undef) hf (fun i o hi ho => ?_) hL _ _ _ (by simp) ?_ (fun i hi => by rw [hof] at hi; cases hi) (hof _) h0
  · have hilt : i < vs.length := by
      have := (Array.getElem?_eq_some_iff.1 ho).1
      omega
    exact reads_at hv i o _ (by simpa using ho) (by simp [List.getD_eq_getElem?_getD, hilt])
  · refine Nat.le_trans List.countP_le_length ?_
    simp
end Go.Proofs.Ytfjipkkhjjpaiaa
