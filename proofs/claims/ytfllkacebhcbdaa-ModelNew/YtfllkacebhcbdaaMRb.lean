/- The reference's states of layer 17: Held, Fresh. -/
import Derived.Test.YtfllkacebhcbdaaMRa
namespace Go.Proofs.Ytfllkacebhcbdaa
open Go.RowKit

theorem heldF_drop (k : Int) {L : List Hl} {j : Nat} {x : Hl} (hd : L.drop j = x :: L.drop (j + 1)) : heldF k (L.drop j) = (if x.c = k then 1 else 0) + heldF k (L.drop (j + 1)) := by rw [hd]; rfl
/-- Is a handle none that was given, and not 0? -/
def freshF (h : Nat) (G : List Nat) : Bool := !(G.any fun x => decide (x = h)) && decide (h ≠ 0)
theorem fresh_drop (h : Nat) {L : List Nat} {j x : Nat} (hd : L.drop j = x :: L.drop (j + 1)) : ((L.drop j).any fun x => decide (x = h)) = (decide (x = h) || ((L.drop (j + 1)).any fun x => decide (x = h))) := by rw [hd]; rfl
end Go.Proofs.Ytfllkacebhcbdaa
