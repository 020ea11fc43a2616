/-
  The law TrackFrom over this seat's translation. Conditions: those that the theorem states.
-/
import Derived.Test.YtibphmddepfgjaaR7H
import Derived.Test.YtibphmddepfgjaaT7Q
namespace Go.Proofs.Ytibphmddepfgjaa.Tr
open Go.RowKit
theorem tfrom_c (ls : List Sp) (q : Option Addr) (cap : Nat) (s : Sp) (stop : Nat) (hstop : stop ≤ 255) (hs : s.I) (hI : ∀ x ∈ ls, x.I) (w : World) (hl : InList cSp w q ls) :
    Calls Try.prog 5 #[.slice q ls.length cap, s.v, .int .u8 (stop : Int)] w fun e w' => e = .returned (.bool true) ∧ Below w.heap.size w w' :=
  from_w tkC (fun s h hs => from_calls s h hs) ls q cap s stop hstop hs hI w hl (fun W _ => awake_c W)
end Go.Proofs.Ytibphmddepfgjaa.Tr
