/-
  The law TrackAgain over this seat's translation. Conditions: those that the theorem states.
-/
import Derived.Test.YtibphmddepfgjaaR7E
import Derived.Test.YtibphmddepfgjaaT7Q
namespace Go.Proofs.Ytibphmddepfgjaa.Tr
open Go.RowKit
theorem tagain_c (ls : List Sp) (q : Option Addr) (cap : Nat) (s : Sp) (hs : s.I) (hI : ∀ x ∈ ls, x.I) (w : World) (hl : InList cSp w q ls) :
    Calls Try.prog 3 #[.slice q ls.length cap, s.v] w fun e w' => e = .returned (.bool true) ∧ Below w.heap.size w w' :=
  again_w tkC ls q cap s hs hI w hl (fun W _ => awake_c W)
end Go.Proofs.Ytibphmddepfgjaa.Tr
