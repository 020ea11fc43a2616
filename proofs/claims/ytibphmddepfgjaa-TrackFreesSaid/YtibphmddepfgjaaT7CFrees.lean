/-
  The law TrackFrees over this seat's translation. Conditions: those that the theorem states.
-/
import Derived.Test.YtibphmddepfgjaaR7G
import Derived.Test.YtibphmddepfgjaaT7Q
namespace Go.Proofs.Ytibphmddepfgjaa.Tr
open Go.RowKit
theorem tfrees_c (ls : List Sp) (q : Option Addr) (cap : Nat) (s t : Sp) (hs : s.I) (ht : t.I) (hI : ∀ x ∈ ls, x.I) (w : World) (hl : InList cSp w q ls) :
    Calls Try.prog 7 #[.slice q ls.length cap, s.v, t.v] w fun e w' => e = .returned (.bool true) ∧ Below w.heap.size w w' :=
  frees_w tkC ls q cap s t hs ht hI w hl (fun W _ => awake_c W)
end Go.Proofs.Ytibphmddepfgjaa.Tr
