/-
  The law StampTexts over this seat's translation. Conditions: those that the theorem states.
-/
import Derived.Test.YtmkclkppolfpnaaDoorStpE
import Derived.Test.YtmkclkppolfpnaaDoorStTextsW
namespace Go.Proofs.YtmkclkppolfpnaaDoor
open Go.RowKit
theorem stexts_c (an ad ac bn bd bc : Int) (ha : In3 an ad ac) (hb : In3 bn bd bc) (w : World) (he : Env w) :
    Calls Tryd.prog 7 #[stV an ad ac, stV bn bd bc] w fun e w' => e = .returned (.bool true) ∧ Below w.heap.size w w' :=
  texts_w an ad ac bn bd bc ha hb w (fun W hb => awake_c W (he.keep hb)) (fun W _ => pright_c an ad ac ha W) (fun W _ => pright_c bn bd bc hb W) (fun W k => ptext_c an ad ac ha W (he.keep k)) (fun W k => ptext_c bn bd bc hb W (he.keep k))
end Go.Proofs.YtmkclkppolfpnaaDoor
