/- Contracts of head's Shaded, Blackened and Marked, and of the document's Lives and Marked. -/
import Derived.Test.YtjbjijkkmlehgaaDoorHhHMore
namespace Go.Proofs.YtjbjijkkmlehgaaDoor.Hh
open Go.RowKit

theorem region_below {P : Program} {id : Nat} {Q : Exit → Act → World → Prop} {a : Act} {w : World} {l : List Oper} (hm : P.follows .mixedOrders = true) (hB : Region.lexB .any l.toArray = true)
    (h : wpQuiet P l.toArray (fun w' => Below w.heap.size w w') (fun a' => ∀ w', Below w.heap.size w w' → Q .normal a' w') l a) : (Code.region id l.toArray true).wp P Q a w :=
  wp_region_quiet (C := fun w' => Below w.heap.size w w') hm hB ⟨rfl, rfl, rfl, Nat.le_refl _, fun _ _ => rfl⟩ (by simpa using h)

end Go.Proofs.YtjbjijkkmlehgaaDoor.Hh
