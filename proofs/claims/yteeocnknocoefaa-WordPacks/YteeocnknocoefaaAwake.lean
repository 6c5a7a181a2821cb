/- Contract of 'awake': the document's examples come out as it says. -/
import Derived.Test.YteeocnknocoefaaPack
namespace Go.Proofs.Yteeocnknocoefaa
open Go.RowKit

def exN (i : Nat) : Int := if i = 0 then 3 else 1
def exV (i : Nat) : Nat := if i = 0 then 5 else 1

theorem ex_pack : packSt exN exV 2 = some (13, 4) := by decide +kernel
theorem ex_get : getN 43981 4 8 = 188 := by decide +kernel
theorem ex_set : setN 0 60 4 31 = 17293822569102704640 := by decide +kernel

theorem ex_pack_any (w1 : World) (blk : Nat) (cap : Nat) (hb : blk < w1.heap.size) (h0 : w1.cell? ⟨blk, 0, none⟩ = some (.int .i64 3)) (h1 : w1.cell? ⟨blk, 1, none⟩ = some (.int .u64 5)) (h2 : w1.cell? ⟨blk, 2, none⟩ = some (.int .i64 1)) (h3 : w1.cell? ⟨blk, 3, none⟩ = some (.int .u64 1)) :
    Calls Try.prog 16 #[.slice (some ⟨blk, 0, none⟩) 2 cap] w1 fun e w' => e = .returned (.tuple #[.int .u64 13, .bool true]) ∧ Below w1.heap.size w1 w' := by
  have h := pack_some exN exV blk 0 2 cap w1
    (fun i hi => by match i, hi with | 0, _ => simpa [exN] using h0 | 1, _ => simpa [exN] using h2)
    (fun i hi => by match i, hi with | 0, _ => simpa [exV] using h1 | 1, _ => simpa [exV] using h3)
    (fun i _ => by unfold exN; split <;> omega) (fun i _ => by unfold exV; split <;> omega) (by omega) hb
  rw [ex_pack] at h
  exact h

theorem ex_get_any (w : World) : Calls Try.prog 9 #[.int .u64 43981, .int .i64 4, .int .i64 8] w fun e w' => e = .returned (.int .u64 188) ∧ ∃ m, w' = w.drewN m := by
  have h := get_yes 43981 4 8 (by omega) (by omega) (by omega) w
  rw [ex_get] at h
  exact h

theorem ex_set_any (w : World) : Calls Try.prog 12 #[.int .u64 0, .int .i64 60, .int .i64 4, .int .u64 31] w fun e w' => e = .returned (.int .u64 17293822569102704640) ∧ w = w' := by
  have h := set_yes 0 60 4 31 (by omega) (by omega) (by omega) (by omega) w
  rw [ex_set] at h
  exact h

set_option maxHeartbeats 400000 in
theorem awake_any (w : World) : Calls Try.prog 11 #[] w fun e w' => e = .returned (.bool true) ∧ Below w.heap.size w w' := by
  go_enter Try.func11, Try.ntmps11
  go_wp2_with (first
    | (go_at_call 16; refine (ex_pack_any _ _ _ ?_ ?_ ?_ ?_ ?_).mono ?_; rotate_right; rintro e w1 ⟨rfl, hb1⟩)
    | (go_at_call 9; refine (ex_get_any _).mono ?_; rintro e w' ⟨rfl, m, rfl⟩)
    | (go_at_call 12; refine (ex_set_any _).mono ?_; rintro e w' ⟨rfl, rfl⟩))
  · go_ret
    have hb1 := ‹Below (w.alloc _).heap.size (w.alloc _) _›
    exact ⟨rfl, below_drewN (((Below.refl _ _).alloc (Nat.le_refl _) _).trans (hb1.mono (by simp))) _⟩
  all_goals simp
end Go.Proofs.Yteeocnknocoefaa
