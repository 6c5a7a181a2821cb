/- The way through HeadShades. -/
import Derived.Test.YtjoehcdkiooimabDoorHShade
namespace Go.Proofs.YtjoehcdkiooimabDoor
open Go.RowKit

set_option maxRecDepth 100000 in
set_option maxHeartbeats 8000000 in
theorem shades_as (W e : Nat) (k m : Int) (g : Bool) (a n s : Int) (right u mk : Bool) (SV BV BB : Nat) (hS : (u && !mk) = false → SV = W) (hB : g = false → BV = W) (hr : right = false → g = false)
    (hmk : mk = true → u = true)
    (c12 : ∀ w, Calls Tryd.prog 12 #[.int .u64 (W : Nat)] w fun r w' => r = .returned (.tuple #[.agg #[.int .i64 k, .int .i64 m, .bool g, .int .i64 a, .int .i64 n, .int .i64 s], .bool right]) ∧ Below w.heap.size w w')
    (c15 : ∀ w, WT w → Calls Tryd.prog 15 #[.int .u64 (W : Nat), .int .u64 (e : Nat)] w fun r w' => r = .returned (.tuple #[.int .u64 (SV : Nat), .bool (u && !mk)]) ∧ Below w.heap.size w w')
    (c16 : ∀ w, WT w → Calls Tryd.prog 16 #[.int .u64 (W : Nat)] w fun r w' => r = .returned (.tuple #[.int .u64 (BV : Nat), .bool g]) ∧ Below w.heap.size w w')
    (c17 : ∀ w, Calls Tryd.prog 17 #[.int .u64 (W : Nat)] w fun r w' => r = .returned (.bool u) ∧ Below w.heap.size w w')
    (c18 : ∀ w, Calls Tryd.prog 18 #[.int .u64 (W : Nat), .int .u64 (e : Nat)] w fun r w' => r = .returned (.bool mk) ∧ Below w.heap.size w w')
    (c19 : ∀ w, Calls Tryd.prog 19 #[.int .u64 (e : Nat)] w fun r w' => r = .returned (.int .i64 (BB : Nat)) ∧ w = w')
    (c20 : ∀ w, WT w → Calls Tryd.prog 20 #[.int .u64 (W : Nat), .int .u64 (e : Nat)] w fun r w' => r = .returned (.bool mk) ∧ Below w.heap.size w w')
    (cS : (u && !mk) = true → ∀ w, Calls Tryd.prog 11 #[.agg #[.int .i64 k, .int .i64 (BB : Nat), .bool true, .int .i64 a, .int .i64 n, .int .i64 s]] w fun r w' => r = .returned (.int .u64 (SV : Nat)) ∧ Below w.heap.size w w')
    (cB : g = true → ∀ w, Calls Tryd.prog 11 #[.agg #[.int .i64 k, .int .i64 m, .bool false, .int .i64 a, .int .i64 n, .int .i64 s]] w fun r w' => r = .returned (.int .u64 (BV : Nat)) ∧ Below w.heap.size w w')
    (w : World) (hw : WT w) :
    Calls Tryd.prog 6 #[.int .u64 (W : Nat), .int .u64 (e : Nat)] w fun r w' => r = .returned (.bool true) ∧ Below w.heap.size w w' := by
  have bel := Below.refl w.heap.size w
  cases u <;> cases mk <;> cases g <;> cases right
  all_goals first | (exact absurd (hmk rfl) (by decide)) | (exact absurd (hr rfl) (by decide)) | skip
  all_goals
    clear hmk hr
    try (have hS0 := hS rfl; subst hS0)
    try (have hB0 := hB rfl; subst hB0)
    try (replace cS := cS rfl)
    try (replace cB := cB rfl)
    simp only [Bool.and_true, Bool.and_false, Bool.not_true, Bool.not_false] at c15
    clear hS hB
    go_enter Tryd.func6, Tryd.ntmps6
    go_wp2_with (first
      | (go_at_call 12; refine (c12 _).mono ?_; rintro r wA ⟨rfl, b⟩; replace hw := hw.below b; replace bel := seq_below bel b; clear b)
      | (go_at_call 15; refine (c15 _ (hw.new _)).mono ?_; rintro r wB ⟨rfl, b⟩; replace hw := (hw.new _).below b; replace bel := new_below bel b; have hh := (hd_new wA _ _ _ _ _ _).below b; obtain ⟨q0, q1, q2, q3, q4, q5⟩ := hh.cells; obtain ⟨n0, n1, n2, n3, n4, n5⟩ := hh.cellsN; clear b)
      | (go_at_call 16; refine (c16 _ hw).mono ?_; rintro r wC ⟨rfl, b⟩; replace hw := hw.below b; replace bel := seq_below bel b; replace hh := hh.below b; clear q0 q1 q2 q3 q4 q5 n0 n1 n2 n3 n4 n5; obtain ⟨q0, q1, q2, q3, q4, q5⟩ := hh.cells; obtain ⟨n0, n1, n2, n3, n4, n5⟩ := hh.cellsN; clear b)
      | (go_at_call 17; refine (c17 _).mono ?_; rintro r wD ⟨rfl, b⟩; replace hw := hw.below b; replace bel := seq_below bel b; replace hh := hh.below b; clear q0 q1 q2 q3 q4 q5 n0 n1 n2 n3 n4 n5; obtain ⟨q0, q1, q2, q3, q4, q5⟩ := hh.cells; obtain ⟨n0, n1, n2, n3, n4, n5⟩ := hh.cellsN; clear b)
      | (go_at_call 18; refine (c18 _).mono ?_; rintro r wE ⟨rfl, b⟩; replace hw := hw.below b; replace bel := seq_below bel b; replace hh := hh.below b; clear q0 q1 q2 q3 q4 q5 n0 n1 n2 n3 n4 n5; obtain ⟨q0, q1, q2, q3, q4, q5⟩ := hh.cells; obtain ⟨n0, n1, n2, n3, n4, n5⟩ := hh.cellsN; clear b)
      | (go_at_call 19; refine (c19 _).mono ?_; rintro r wE ⟨rfl, rfl⟩)
      | (go_at_call 11; with_reducible refine (cS _).mono ?_; rintro r wF ⟨rfl, b⟩; replace hw := (hw.new _).below b; replace bel := new_below bel b; replace hh := hd_past hh b; clear q0 q1 q2 q3 q4 q5 n0 n1 n2 n3 n4 n5; obtain ⟨q0, q1, q2, q3, q4, q5⟩ := hh.cells; obtain ⟨n0, n1, n2, n3, n4, n5⟩ := hh.cellsN; clear b)
      | (go_at_call 11; with_reducible refine (cB _).mono ?_; rintro r wG ⟨rfl, b⟩; replace hw := (hw.new _).below b; replace bel := new_below bel b; replace hh := hd_past hh b; clear q0 q1 q2 q3 q4 q5 n0 n1 n2 n3 n4 n5; obtain ⟨q0, q1, q2, q3, q4, q5⟩ := hh.cells; obtain ⟨n0, n1, n2, n3, n4, n5⟩ := hh.cellsN; clear b)
      | (go_at_call 20; refine (c20 _ hw).mono ?_; rintro r wH ⟨rfl, b⟩; replace hw := hw.below b; replace bel := seq_below bel b; replace hh := hh.below b; clear q0 q1 q2 q3 q4 q5 n0 n1 n2 n3 n4 n5; obtain ⟨q0, q1, q2, q3, q4, q5⟩ := hh.cells; obtain ⟨n0, n1, n2, n3, n4, n5⟩ := hh.cellsN; clear b)
      | (go_at_call 9; refine (awake_any _ hw).mono ?_; rintro r wI ⟨rfl, b⟩; replace bel := seq_below bel b; clear b))
    go_ret
    exact ⟨rfl, bel⟩

theorem used_white (K M e : Nat) : (usedK K && !(usedK K && decide ((M : Int) = ((blackN e : Nat) : Int)))) = whiteH K M e := by
  unfold whiteH
  rw [black_nat]
  cases usedK K
  · rfl
  · by_cases h : (M : Int) = ((blackN e : Nat) : Int) <;> simp [h]
theorem white_used (K M e : Nat) : (usedK K && !(whiteH K M e)) = (usedK K && decide ((M : Int) = ((blackN e : Nat) : Int))) := by
  unfold whiteH
  rw [black_nat]
  cases usedK K
  · rfl
  · by_cases h : (M : Int) = ((blackN e : Nat) : Int) <;> simp [h]

theorem shades_walk (W e : Nat) (hW : W < 18446744073709551616) (he : e < 18446744073709551616) (w : World) (hw : WT w) :
    Calls Tryd.prog 6 #[.int .u64 (W : Nat), .int .u64 (e : Nat)] w fun r w' => r = .returned (.bool true) ∧ Below w.heap.size w w' := by
  by_cases h : okW W = true
  · obtain ⟨K, M, g, A, N, S, hr, rfl⟩ := okW_parts hW h
    refine shades_as _ e K M g A N S true (usedK K) (usedK K && decide ((M : Int) = ((blackN e : Nat) : Int)))
      (if whiteH K M e = true then wordOf K (blackN e) (true : Bool).toNat A N S else wordOf K M g.toNat A N S) (wordOf K M (false : Bool).toNat A N S) (blackN e)
      (fun hz => by rw [used_white] at hz; rw [hz]; rfl) (fun hg => by subst hg; rfl) (fun h => by cases h) (fun h => by simp at h; exact h.1)
      (fun w => runpack_word g hr w) ?_ ?_ (fun w => lives_word g hr w)
      (fun w => rmarked_as _ e K M g A N S true (usedK K) he (fun w => runpack_word g hr w) (fun w => lives_word g hr w) w) (rblack_nat e he) ?_ ?_ ?_ w hw
    · intro w hw
      rw [used_white]
      by_cases hz : whiteH K M e = true
      · rw [if_pos hz, hz]; exact shaded_word g hr e he hz w hw
      · rw [if_neg hz]
        have hz' : whiteH K M e = false := by simpa using hz
        rw [hz']; exact shaded_not g hr e he hz' w hw
    · intro w hw
      cases g
      · exact blackened_not hr w hw
      · exact blackened_gray hr w hw
    · intro w hw
      rw [← white_used]
      exact marked_word g hr e he w hw
    · intro hz w
      rw [used_white] at hz
      rw [if_pos hz]
      exact rpack_any K (blackN e) true A N S hr.k (blackN_lt e) hr.a hr.n hr.s w
    · intro _ w
      exact rpack_any K M false A N S hr.k hr.m hr.a hr.n hr.s w
  · have hb : okW W = false := by simpa using h
    have c18 := fun w => rmarked_as W e 0 0 false 0 0 0 false false he (fun w => runpack_bad hW hb w) (fun w => lives_bad hW hb w) w
    exact shades_as W e 0 0 false 0 0 0 false false false W W (blackN e) (fun _ => rfl) (fun _ => rfl) (fun _ => rfl) (fun h => by cases h)
      (fun w => runpack_bad hW hb w) (fun w hw => shaded_bad hW hb e w hw) (fun w hw => blackened_bad hW hb w hw) (fun w => lives_bad hW hb w)
      c18 (rblack_nat e he) (fun w hw => marked_bad hW hb e w hw) (fun h => by cases h) (fun h => by cases h) w hw
end Go.Proofs.YtjoehcdkiooimabDoor
