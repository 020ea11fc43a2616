/-
  The law TrackNil over this seat's translation. Conditions: those that the theorem states.
-/
import Derived.Test.YtibphmddepfgjaaR7F
import Derived.Test.YtibphmddepfgjaaT7Q
namespace Go.Proofs.Ytibphmddepfgjaa.Tr
open Go.RowKit
theorem tnil_c (s : Sp) (hs : s.I) (x : Int) (w : World) :
    Calls Try.prog 6 #[s.v, .int .i64 x] w fun e w' => e = .returned (.bool true) ∧ Below w.heap.size w w' :=
  nil_w s x w (fun W _ => awake_c W) (fun W => atNil_c s hs W) (fun W => putNil_c s hs x W) (fun W => setNil_c s hs x W) (fun W => backNil_c s hs W) (fun W => freeNil_c s hs W) (fun W => lenTNil_c W) (fun W => toldNil_c W)
end Go.Proofs.Ytibphmddepfgjaa.Tr
