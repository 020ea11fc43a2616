/-
  The law StampAfter over this seat's translation. Conditions: those that the theorem states.
-/
import Derived.Test.YtmkclkppolfpnaaDoorStpE
import Derived.Test.YtmkclkppolfpnaaDoorStAfterW
namespace Go.Proofs.YtmkclkppolfpnaaDoor
open Go.RowKit
theorem safter_c (n d c tn td : Int) (hs : In3 n d c) (ht : In64 tn ∧ In64 td) (w : World) (he : Env w) :
    Calls Tryd.prog 5 #[stV n d c, .agg #[.int .i64 tn, .int .i64 td]] w fun e w' => e = .returned (.bool true) ∧ Below w.heap.size w w' :=
  after_w n d c tn td hs ht w (fun W hb => awake_c W (he.keep hb)) (fun W _ => pafter_c n d c tn td hs ht W) (fun W _ => pnext_c n d c hs W)
end Go.Proofs.YtmkclkppolfpnaaDoor
