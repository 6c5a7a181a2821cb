/- The document's example of layer 13, reckoned. -/
import Derived.Test.YtcioomopgdhlmaaGreatDoorCEn
import Derived.Test.YtcioomopgdhlmaaGreatDoorBLd0
import Derived.Test.YtcioomopgdhlmaaGreatDoorCNc
namespace Go.Proofs.YtcioomopgdhlmaaGreatDoor
open Go.RowKit

def K4 : Cf := ⟨4, 1, 1, 1, 9, 0, 3⟩
theorem K4_ok : K4.Ok := ⟨by decide, by decide, by decide, by decide, by decide, by decide, by decide, by decide⟩
def awZ : Nat → Sv := fun i => if i = 0 then ⟨⟨1, 0, false, 1, 0, 0⟩, 1, fun _ => 2⟩ else if i = 1 then ⟨⟨2, 0, false, 0, 0, 0⟩, 3, fun j => if j = 0 then 3 else if j = 1 then 1 else 0⟩ else ⟨⟨1, 0, false, 1, 0, 0⟩, 0, fun _ => 0⟩
def awX : List Nat := laidX K4 4 awZ 1 (fun _ => 1) 0 (fun _ => 0)
def km0 (e : Nat) : Km := ⟨0, 0, e, 0, 0, 0, 0, 0, ⟨false, 0, 0, 0, 0, 0⟩, 0, fun _ => 0, 0, 0, 0, 0, 0, 0, 0⟩
theorem aw_len : awX.length = K4.N := by decide +kernel
theorem aw_run : ∀ k, k < 29 → kmOk K4 (kmRun K4 awX (km0 2) k).1 (kmRun K4 awX (km0 2) k).2 ∧ ((kmRun K4 awX (km0 2) (k + 1)).2.pc = 16 ↔ k + 1 = 29) := by decide +kernel
/-- Which slots are marked behind it. -/
theorem aw_marked : ((List.range 4).map fun s => mkdW ((kmRun K4 awX (km0 2) 29).1.getD (K4.hd s) 0) 2) = [true, true, true, false] := by decide +kernel
end Go.Proofs.YtcioomopgdhlmaaGreatDoor
