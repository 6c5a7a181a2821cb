/- The law of whatever is made and freed, for all that comes in. -/
import Derived.Test.YtjbjijkkmlehgaaDoorPQ
import Derived.Test.YtjbjijkkmlehgaaDoorPH
namespace Go.Proofs.YtjbjijkkmlehgaaDoor
open Go.ChangeShapes Go.WideShapes Go.ChangeAt Go.RowKit Go.Deep
open Hh (WT)
theorem open_ints {H : Type} {enc : TypeId × Value → H} {w : World} {ad : Option Addr} {len cap fuel : Nat} {x : DataW H × List MemPlace} (h : DataW.trod enc Tryd.prog w 0 (fun _ => true) true fuel 25 [.slice ad len cap] = some x) : ∃ Z : Nat → Int, RdI w ad len Z ∧ len ≤ maxLen := Op2.open_ints h
theorem open_works {H : Type} {enc : TypeId × Value → H} {w : World} {ad : Option Addr} {len cap fuel : Nat} {x : DataW H × List MemPlace} (h : DataW.trod enc Tryd.prog w 0 (fun _ => true) true fuel 24 [.slice ad len cap] = some x) : RowsW w ad len := Op2.open_works h
theorem plays_row (s a c d g k : Int) (ad1 : Option Addr) (len1 cap1 : Nat) (ad2 : Option Addr) (len2 cap2 : Nat) (Z2 : Nat → Int) (w : World) (hw : WT w) (hZ1 : RowsW w ad1 len1) (hZ2 : RdI w ad2 len2 Z2) (hP2 : len2 ≤ maxLen) :
    Calls Tryd.prog 3 #[.agg (cs s a c d g k), .slice ad1 len1 cap1, .slice ad2 len2 cap2] w fun e w' => e = .returned (.bool true) ∧ Below w.heap.size w w' := by
  by_cases hz : len1 ≤ 6
  · exact plays_short s a c d g k ad1 len1 cap1 ad2 len2 cap2 Z2 w hw hZ1 hZ2 hP2 hz
  · exact plays_long s a c d g k ad1 len1 cap1 ad2 len2 cap2 Z2 w hw hZ1 hZ2 hP2 (by omega)
end Go.Proofs.YtjbjijkkmlehgaaDoor
