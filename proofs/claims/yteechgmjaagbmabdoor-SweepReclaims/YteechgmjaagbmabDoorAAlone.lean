/- The law of one alone that makes all slots something, walked. -/
import Derived.Test.YteechgmjaagbmabDoorAInv
namespace Go.Proofs.YteechgmjaagbmabDoor
open Go.RowKit
open Mm (IsMem MS touched Only IsWords zeroMS)
open Hh (WT)

end Go.Proofs.YteechgmjaagbmabDoor
