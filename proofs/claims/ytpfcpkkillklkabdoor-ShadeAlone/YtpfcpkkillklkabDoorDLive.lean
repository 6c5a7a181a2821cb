/- What lives and what is marked, of any word. -/
import Derived.Test.YtpfcpkkillklkabDoorDSem
namespace Go.Proofs.YtpfcpkkillklkabDoor
open Go.RowKit
open Hh (WT okW whiteH wordOf Hr blackN usedK)

def livW (W : Nat) : Bool := okW W && usedK ((W % 8 : Nat) : Int)
def mkdW (W e : Nat) : Bool := livW W && decide (((W / 8 % 2 : Nat) : Int) = ((blackN e : Nat) : Int))
theorem can_liv (W e : Nat) : canS W e = (livW W && !mkdW W e) := by
  unfold canS mkdW livW Hh.whiteH
  rw [Hh.black_nat]
  cases okW W <;> cases usedK ((W % 8 : Nat) : Int) <;> simp
theorem lives_any {W : Nat} (hW : W < 18446744073709551616) (w : World) : Calls Tryd.prog 13 #[.int .u64 (W : Nat)] w fun r w' => r = .returned (.bool (livW W)) ∧ Below w.heap.size w w' := by
  cases hok : okW W
  · have e : livW W = false := by unfold livW; rw [hok]; rfl
    rw [e]
    exact Hh.lives_bad hW hok w
  · obtain ⟨K, M, g, A, N, S, h1, rfl⟩ := Hh.okW_parts hW hok
    have e : livW (wordOf K M g.toNat A N S) = usedK K := by unfold livW; rw [hok, (Hh.word_parts g h1).1]; rfl
    rw [e]
    exact Hh.lives_word g h1 w
theorem marked_any {W e : Nat} (hW : W < 18446744073709551616) (he : e < 18446744073709551616) (w : World) : Calls Tryd.prog 14 #[.int .u64 (W : Nat), .int .u64 (e : Nat)] w fun r w' => r = .returned (.bool (mkdW W e)) ∧ Below w.heap.size w w' := by
  cases hok : okW W
  · have q := Hh.rmarked_as W e _ _ _ _ _ _ _ _ he (fun w => Hh.runpack_bad hW hok w) (fun w => Hh.lives_bad hW hok w) w
    have e : mkdW W e = false := by unfold mkdW livW; rw [hok]; rfl
    rw [e]
    exact q
  · obtain ⟨K, M, g, A, N, S, h1, rfl⟩ := Hh.okW_parts hW hok
    have q := Hh.rmarked_as _ e _ _ _ _ _ _ _ _ he (fun w => Hh.runpack_word g h1 w) (fun w => Hh.lives_word g h1 w) w
    have e : mkdW (wordOf K M g.toNat A N S) e = (usedK K && decide ((M : Int) = ((blackN e : Nat) : Int))) := by
      obtain ⟨p0, p1, _⟩ := Hh.word_parts g h1
      unfold mkdW livW; rw [hok, p0, p1]; rfl
    rw [e]
    exact q
theorem sh_marked {W : Nat} (hW : W < 18446744073709551616) {e : Nat} (h : canS W e = true) : mkdW (shN W e) e = true := by
  have hl : livW W = true := by rw [can_liv, Bool.and_eq_true] at h; exact h.1
  obtain ⟨_, hok, hc, _, _⟩ := sh_facts hW h
  rw [can_liv] at hc
  have hl2 : livW (shN W e) = true := by
    unfold livW at hl ⊢
    rw [Bool.and_eq_true] at hl
    rw [hok, Bool.true_and]
    have e8 : shN W e % 8 = W % 8 := by unfold shN; omega
    rw [e8]
    exact hl.2
  rw [hl2] at hc
  simpa using hc
end Go.Proofs.YtpfcpkkillklkabDoor
