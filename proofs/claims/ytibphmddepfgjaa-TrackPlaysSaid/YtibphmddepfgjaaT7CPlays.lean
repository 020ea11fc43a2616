/-
  The law TrackPlays over this seat's translation. Conditions: those that the theorem states.
-/
import Derived.Test.YtibphmddepfgjaaR7P
import Derived.Test.YtibphmddepfgjaaT7Q
namespace Go.Proofs.Ytibphmddepfgjaa.Tr
open Go.RowKit
theorem tplays_c (room : Int) (hro : In64 room) (acts : List Ac) (q : Option Addr) (cap : Nat) (w : World) (hl : InList cA w q acts) (hI : ∀ a ∈ acts, (0 ≤ a.1 ∧ a.1 ≤ 255) ∧ a.2.1.I ∧ In64 a.2.2) :
    Calls Try.prog 4 #[.int .i64 room, .slice q acts.length cap] w fun e w' => e = .returned (.bool true) ∧ Below w.heap.size w w' :=
  plays_w tkC room hro acts q cap w hl hI (fun W _ => awake_c W)
end Go.Proofs.Ytibphmddepfgjaa.Tr
