/- A region that draws its order: from some operation on all only read, in one world. -/
import Derived.Still
import Derived.StillTactics
import Derived.RegionTactic
namespace Go.Proofs.Ytpfcpkkillklkaa
open Go

theorem wpAny_still_from {P : Program} {Q : Exit → Act → World → Prop} {fuel : Nat} {listed : Array Bool} {a : Act} {w : World} {l : List Oper} (k : Nat) (hs : Region.noSelect l.toArray = true)
    (hf : (l.drop k).length = fuel) (hB : Region.lexFrom .any l.toArray fuel k listed = true) (h : wpStill P l.toArray w (fun a' => Q .normal a' w) (l.drop k) a) : wpAny P .any l.toArray Q fuel listed a w := by
  subst hf
  exact wpAny_of_still (Q := fun a' => Q .normal a' w) (fun _ h => h) _ _ _ (wpAnyS_lex hs (l.drop k) k listed a (fun j => by simp) hB h)
end Go.Proofs.Ytpfcpkkillklkaa
