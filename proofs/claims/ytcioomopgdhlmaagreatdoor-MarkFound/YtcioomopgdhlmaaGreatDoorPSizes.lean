/- 'awake', and the law of sizes, walked. -/
import Derived.Test.YtcioomopgdhlmaaGreatDoorPWords
namespace Go.Proofs.YtcioomopgdhlmaaGreatDoor
open Go.RowKit

theorem ex_header (w : World) : Calls Tryz.prog 19 #[.agg (cs 2 4 1 2 1 0), .int .i64 1] w fun e w' => e = .returned (.int .i64 15) ∧ Below w.heap.size w w' := by
  have h := header_yes (s := 2) (a := 4) (c := 1) (d := 2) (g := 1) (k := 0) 1 (by decide) (by decide) w
  rw [show fsI 1 2 + 1 * ssI 4 = 15 by decide] at h; exact h
theorem szI_nat (C D S B : Nat) (a : Int) (hB : bsI a = (B : Int)) : szI S a C D = ((nW C D B S : Nat) : Int) := by
  unfold szI fsI ssI nW
  rw [hB]
  push_cast
  omega

theorem nat_cfg {s a c d g k : Int} (hr : rightB s a c d g k = true) : ∃ C D S B : Nat, s = (S : Int) ∧ c = (C : Int) ∧ d = (D : Int) ∧ bsI a = (B : Int) ∧ B ≤ 8 ∧ 3 ≤ B ∧ 1 ≤ D ∧ 1 ≤ C ∧ 1 ≤ S ∧ C ≤ 8 ∧ D ≤ 16 ∧ S ≤ 64 := by
  have h := rightB_iff.1 hr
  have hb := bsI_b a h.2.1
  exact ⟨c.toNat, d.toNat, s.toNat, (bsI a).toNat, by omega, by omega, by omega, by omega, by omega, by omega, by omega, by omega, by omega, by omega, by omega, by omega⟩

end Go.Proofs.YtcioomopgdhlmaaGreatDoor
