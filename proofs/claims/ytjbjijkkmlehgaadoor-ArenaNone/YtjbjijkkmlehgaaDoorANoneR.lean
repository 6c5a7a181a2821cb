/- The law of what isn't right, as the row's frame calls it. -/
import Derived.Test.YtjbjijkkmlehgaaDoorANone
import Derived.Test.YtjbjijkkmlehgaaDoorAOpen
namespace Go.Proofs.YtjbjijkkmlehgaaDoor
open Go.RowKit
open Hh (WT)
theorem none_row (s a c d g k kind ar slot : Int) (ad : Option Addr) (n cap : Nat) (Y : List Nat) (hl : Y.length = n) (w : World) (hw : WT w) (hs : SrW w ad Y) :
    Calls Tryd.prog 7 #[.agg (cs s a c d g k), .int .i64 kind, .int .i64 ar, .int .i64 slot, .slice ad n cap] w fun e w' => e = .returned (.bool true) ∧ Below w.heap.size w w' :=
  none_law s a c d g k kind ar slot ad n cap Y hl w hs hw
end Go.Proofs.YtjbjijkkmlehgaaDoor
