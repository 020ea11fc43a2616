/-
  A row of items in the worlds of the stable sort, and insertion sort on it by the kit's contract. Conditions: those that each theorem states.
-/
import Derived.Test.YtfjipkkhjjpaiaaStIns
namespace Go.Proofs.Ytfjipkkhjjpaiaa
open Go.Shelf Go.RowKit Go.Lib Go.Sort St

theorem it_len (x : It) : (It.cells x).length = 2 := rfl
theorem it_one (x : It) : ∀ v ∈ It.cells x, v.oneCell' = true := by
  intro v hv
  simp only [It.cells, List.mem_cons, List.not_mem_nil, or_false] at hv
  rcases hv with rfl | rfl <;> rfl
theorem it_cells {w0 W : World} {blk off : Nat} {dk d0 : Array It} (h : SWK It.cells 2 w0 blk off dk W) (R : RowK It.cells 2 w0 blk off d0) (hs : dk.size = d0.size) (i : Nat) (hi : i < dk.size) :
    (W.cell? ⟨blk, off + i * 2, none⟩ = some (.int .i64 dk[i]!.1) ∧ W.cell? ⟨blk, off + i * 2 + 1, none⟩ = some (.int .i64 dk[i]!.2)) ∧ W.frozen? ⟨blk, off + i * 2, none⟩ = false ∧ W.frozen? ⟨blk, off + i * 2 + 1, none⟩ = false := by
  have hh := h.holds R.hblk R.hH hs
  have h0 := hh.cell hi (c := 0) (by omega)
  have h1 := hh.cell hi (c := 1) (by omega)
  exact ⟨⟨h0.1, h1.1⟩, h0.2, h1.2⟩
theorem it_cells_grown {w0 W : World} {blk off : Nat} {dk d0 : Array It} (h : SWK It.cells 2 w0 blk off dk W) (R : RowK It.cells 2 w0 blk off d0) (hs : dk.size = d0.size) (i : Nat) (hi : i < dk.size) :
    (∀ n os, (grow (W.drewN n) os).cell? ⟨blk, off + i * 2, none⟩ = some (.int .i64 dk[i]!.1)) ∧ ∀ n os, (grow (W.drewN n) os).cell? ⟨blk, off + i * 2 + 1, none⟩ = some (.int .i64 dk[i]!.2) :=
  ⟨fun n os => (it_cells (h.grown n os) R hs i hi).1.1, fun n os => (it_cells (h.grown n os) R hs i hi).1.2⟩
theorem it_swapped {w0 W : World} {blk off : Nat} {dk d0 : Array It} (h : SWK It.cells 2 w0 blk off dk W) (R : RowK It.cells 2 w0 blk off d0) (i j : Nat) (hi : i < dk.size) (hj : j < dk.size) :
    SWK It.cells 2 w0 blk off (swp dk i j) (((((W.setCell ⟨blk, off + i * 2, none⟩ (.int .i64 dk[j]!.1)).setCell ⟨blk, off + i * 2 + 1, none⟩ (.int .i64 dk[j]!.2)).setCell ⟨blk, off + j * 2, none⟩ (.int .i64 dk[i]!.1)).setCell ⟨blk, off + j * 2 + 1, none⟩ (.int .i64 dk[i]!.2)).drew) := by
  have hs := h.swap R.hk R.hblk i j hi hj
  exact hs.drew

theorem insertion_T (g : Nat) (cb : Array Value) (eg : ∀ args w, (callFunc g args).run Try.prog w = .ok (.enter g args) w) {cf : It → It → Int} {key : It → Int} (hcf : ∀ x y, cf x y < 0 ↔ key x < key y) (blk off cap a b : Nat) (d0 d : Array It) (w0 w : World)
    (hcmp : ∀ W, CmpLays Try.prog g cb It.cells 2 cf blk off d0.size W) (R : RowK It.cells 2 w0 blk off d0) (hs : d0.size = d.size) (S : SWK It.cells 2 w0 blk off d w) (hab : a ≤ b) (hb : b ≤ d.size) (hsz : d.size < 4611686018427387904) :
    Calls Try.prog 62 #[.slice (some ⟨blk, off, none⟩) d.size cap, .int .i64 a, .int .i64 b, .func (.func g) #[] cb] w fun e w' => e = .returned (.tuple #[]) ∧ ∃ d', Mrg key a b d d' ∧ Srt key a b d' ∧ SWK It.cells 2 w0 blk off d' w' := by
  have h := AnyQ.insertionSortCmpFunc Try.laysInsT 2 (fun w => by exact Try.isAgg41 w) (fun w => by exact Try.sizeOf41 w) It.cells it_len it_one cf g cb blk off cap a b d w eg (hs ▸ hcmp w) (S.holds R.hblk R.hH hs.symm) (S.lt R.hblk) hab hb hsz
  change Calls Try.prog 62 _ _ _ at h
  refine h.mono fun e w' ⟨he, n, os, hw⟩ => ⟨he, _, (insertion_facts hcf a b d hab hb).1, (insertion_facts hcf a b d hab hb).2, ?_⟩
  rw [hw]
  exact S.on R.hblk n _ os (insertion_facts hcf a b d hab hb).1.stb.1
end Go.Proofs.Ytfjipkkhjjpaiaa
