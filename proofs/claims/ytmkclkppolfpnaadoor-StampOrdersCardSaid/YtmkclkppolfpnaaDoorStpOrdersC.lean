/-
  The law StampOrders over this seat's translation. Conditions: those that the theorem states.
-/
import Derived.Test.YtmkclkppolfpnaaDoorStpE
import Derived.Test.YtmkclkppolfpnaaDoorStOrdersW
namespace Go.Proofs.YtmkclkppolfpnaaDoor
open Go.RowKit
theorem sorders_c (an ad ac bn bd bc cn cd cc tn td : Int) (ha : In3 an ad ac) (hb : In3 bn bd bc) (hc : In3 cn cd cc) (ht : In64 tn ∧ In64 td) (w : World) (he : Env w) :
    Calls Tryd.prog 3 #[stV an ad ac, stV bn bd bc, stV cn cd cc, .agg #[.int .i64 tn, .int .i64 td]] w fun e w' => e = .returned (.bool true) ∧ Below w.heap.size w w' :=
  orders_w an ad ac bn bd bc cn cd cc tn td ha hb hc w (fun W hb => awake_c W (he.keep hb)) (fun n d c h W _ => pright_c n d c h W) (fun n d c n' d' c' h h' W _ => pcmp_c n d c n' d' c' h h' W) (fun n d c n' d' c' h h' W _ => pless_c n d c n' d' c' h h' W) (fun W _ => pafter_c an ad ac tn td ha ht W)
end Go.Proofs.YtmkclkppolfpnaaDoor
