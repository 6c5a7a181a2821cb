/- The way through HeadRetires. -/
import Derived.Test.YtjoehcdkiooimacDoorHFree
namespace Go.Proofs.YtjoehcdkiooimacDoor
open Go.RowKit

theorem used_white (K M e : Nat) : (usedK K && !(usedK K && decide ((M : Int) = ((blackN e : Nat) : Int)))) = whiteH K M e := by
  unfold whiteH
  rw [black_nat]
  cases usedK K
  · rfl
  · by_cases h : (M : Int) = ((blackN e : Nat) : Int) <;> simp [h]

set_option maxRecDepth 100000 in
set_option maxHeartbeats 8000000 in
theorem retires_live (W e : Nat) (x : Int) (k m : Int) (g : Bool) (a n s : Int) (right u mk : Bool) (RV : Nat) (hS : (u && !mk) = false → RV = W) (hmk : mk = true → u = true) (hk3 : right = true → ¬ k = 3)
    (c5 : ∀ w, Calls Tryd.prog 5 #[.int .u64 (W : Nat)] w fun r w' => r = .returned (.tuple #[.agg #[.int .i64 k, .int .i64 m, .bool g, .int .i64 a, .int .i64 n, .int .i64 s], .bool right]) ∧ Below w.heap.size w w')
    (c6 : ∀ w, WT w → Calls Tryd.prog 6 #[.int .u64 (W : Nat), .int .u64 (e : Nat)] w fun r w' => r = .returned (.tuple #[.int .u64 (RV : Nat), .bool (u && !mk)]) ∧ Below w.heap.size w w')
    (c7 : ∀ w, WT w → Calls Tryd.prog 7 #[.int .u64 (W : Nat), .int .i64 x] w fun r w' => r = .returned (.tuple #[.int .u64 (W : Nat), .bool false]) ∧ Below w.heap.size w w')
    (c8 : ∀ w, Calls Tryd.prog 8 #[.int .u64 (W : Nat)] w fun r w' => r = .returned (.bool u) ∧ Below w.heap.size w w')
    (c9 : ∀ w, Calls Tryd.prog 9 #[.int .u64 (W : Nat), .int .u64 (e : Nat)] w fun r w' => r = .returned (.bool mk) ∧ Below w.heap.size w w')
    (cR : (u && !mk) = true → ∀ w, Calls Tryd.prog 10 #[.agg #[.int .i64 3, .int .i64 m, .bool false, .int .i64 a, .int .i64 n, .int .i64 ((e : Int) % 65536)]] w fun r w' => r = .returned (.int .u64 (RV : Nat)) ∧ Below w.heap.size w w')
    (w : World) (hw : WT w) :
    Calls Tryd.prog 3 #[.int .u64 (W : Nat), .int .u64 (e : Nat), .int .i64 x] w fun r w' => r = .returned (.bool true) ∧ Below w.heap.size w w' := by
  have bel := Below.refl w.heap.size w
  cases u <;> cases mk <;> cases right
  all_goals first | (exact absurd (hmk rfl) (by decide)) | skip
  all_goals
    clear hmk
    try (have hS0 := hS rfl; subst hS0)
    try (replace cR := cR rfl)
    try (replace hk3 := hk3 rfl)
    try (have hk3b : (k == 3) = false := by simpa using hk3)
    simp only [Bool.and_true, Bool.and_false, Bool.not_true, Bool.not_false] at c6
    clear hS
    go_enter Tryd.func3, Tryd.ntmps3
    go_wp2_with (first
      | (go_at_call 5; refine (c5 _).mono ?_; rintro r wA ⟨rfl, b⟩; replace hw := hw.below b; replace bel := seq_below bel b; clear b)
      | (go_at_call 6; refine (c6 _ (hw.new _)).mono ?_; rintro r wB ⟨rfl, b⟩; replace hw := (hw.new _).below b; replace bel := new_below bel b; have hh := (hd_new wA _ _ _ _ _ _).below b; obtain ⟨q0, q1, q2, q3, q4, q5⟩ := hh.cells; obtain ⟨n0, n1, n2, n3, n4, n5⟩ := hh.cellsN; clear b)
      | (go_at_call 7; refine (c7 _ hw).mono ?_; rintro r wC ⟨rfl, b⟩; replace hw := hw.below b; replace bel := seq_below bel b; replace hh := hh.below b; clear q0 q1 q2 q3 q4 q5 n0 n1 n2 n3 n4 n5; obtain ⟨q0, q1, q2, q3, q4, q5⟩ := hh.cells; obtain ⟨n0, n1, n2, n3, n4, n5⟩ := hh.cellsN; clear b)
      | (go_at_call 8; refine (c8 _).mono ?_; rintro r wD ⟨rfl, b⟩; replace hw := hw.below b; replace bel := seq_below bel b; replace hh := hh.below b; clear q0 q1 q2 q3 q4 q5 n0 n1 n2 n3 n4 n5; obtain ⟨q0, q1, q2, q3, q4, q5⟩ := hh.cells; obtain ⟨n0, n1, n2, n3, n4, n5⟩ := hh.cellsN; clear b)
      | (go_at_call 9; refine (c9 _).mono ?_; rintro r wE ⟨rfl, b⟩; replace hw := hw.below b; replace bel := seq_below bel b; replace hh := hh.below b; clear q0 q1 q2 q3 q4 q5 n0 n1 n2 n3 n4 n5; obtain ⟨q0, q1, q2, q3, q4, q5⟩ := hh.cells; obtain ⟨n0, n1, n2, n3, n4, n5⟩ := hh.cellsN; clear b)
      | (go_at_call 10; with_reducible refine (cR _).mono ?_; rintro r wF ⟨rfl, b⟩; replace hw := (hw.new _).below b; replace bel := new_below bel b; replace hh := hd_past hh b; clear q0 q1 q2 q3 q4 q5 n0 n1 n2 n3 n4 n5; obtain ⟨q0, q1, q2, q3, q4, q5⟩ := hh.cells; obtain ⟨n0, n1, n2, n3, n4, n5⟩ := hh.cellsN; clear b)
      | (go_at_call 11; refine (awake_any _ hw).mono ?_; rintro r wI ⟨rfl, b⟩; replace bel := seq_below bel b; clear b))
    go_ret
    exact ⟨rfl, bel⟩

set_option maxRecDepth 100000 in
set_option maxHeartbeats 8000000 in
theorem retires_dead (W e : Nat) (x : Int) (m : Int) (g : Bool) (a : Int) (n : Int) (s : Int) (FV : Nat) (hn0 : 0 ≤ n) (hN : n < 4294967296) (hx : x ≤ n + 1 ∨ n + 1 < x ∧ n = 4294967295)
    (c5 : ∀ w, Calls Tryd.prog 5 #[.int .u64 (W : Nat)] w fun r w' => r = .returned (.tuple #[.agg #[.int .i64 3, .int .i64 m, .bool g, .int .i64 a, .int .i64 n, .int .i64 s], .bool true]) ∧ Below w.heap.size w w')
    (c6 : ∀ w, WT w → Calls Tryd.prog 6 #[.int .u64 (W : Nat), .int .u64 (e : Nat)] w fun r w' => r = .returned (.tuple #[.int .u64 (W : Nat), .bool false]) ∧ Below w.heap.size w w')
    (c7 : ∀ w, WT w → Calls Tryd.prog 7 #[.int .u64 (W : Nat), .int .i64 x] w fun r w' => r = .returned (.tuple #[.int .u64 (FV : Nat), .bool true]) ∧ Below w.heap.size w w')
    (c8 : ∀ w, Calls Tryd.prog 8 #[.int .u64 (W : Nat)] w fun r w' => r = .returned (.bool false) ∧ Below w.heap.size w w')
    (cF : ∀ w, Calls Tryd.prog 10 #[.agg #[.int .i64 4, .int .i64 m, .bool g, .int .i64 a, .int .i64 n, .int .i64 s]] w fun r w' => r = .returned (.int .u64 (FV : Nat)) ∧ Below w.heap.size w w')
    (w : World) (hw : WT w) :
    Calls Tryd.prog 3 #[.int .u64 (W : Nat), .int .u64 (e : Nat), .int .i64 x] w fun r w' => r = .returned (.bool true) ∧ Below w.heap.size w w' := by
  have bel := Below.refl w.heap.size w
  rcases hx with h1 | ⟨h1, rfl⟩
  all_goals
    go_enter Tryd.func3, Tryd.ntmps3
    go_wp2_with (first
      | (go_at_call 5; refine (c5 _).mono ?_; rintro r wA ⟨rfl, b⟩; replace hw := hw.below b; replace bel := seq_below bel b; clear b)
      | (go_at_call 6; refine (c6 _ (hw.new _)).mono ?_; rintro r wB ⟨rfl, b⟩; replace hw := (hw.new _).below b; replace bel := new_below bel b; have hh := (hd_new wA _ _ _ _ _ _).below b; obtain ⟨q0, q1, q2, q3, q4, q5⟩ := hh.cells; obtain ⟨n0, n1, n2, n3, n4, n5⟩ := hh.cellsN; clear b)
      | (go_at_call 7; refine (c7 _ hw).mono ?_; rintro r wC ⟨rfl, b⟩; replace hw := hw.below b; replace bel := seq_below bel b; replace hh := hh.below b; clear q0 q1 q2 q3 q4 q5 n0 n1 n2 n3 n4 n5; obtain ⟨q0, q1, q2, q3, q4, q5⟩ := hh.cells; obtain ⟨n0, n1, n2, n3, n4, n5⟩ := hh.cellsN; clear b)
      | (go_at_call 8; refine (c8 _).mono ?_; rintro r wD ⟨rfl, b⟩; replace hw := hw.below b; replace bel := seq_below bel b; replace hh := hh.below b; clear q0 q1 q2 q3 q4 q5 n0 n1 n2 n3 n4 n5; obtain ⟨q0, q1, q2, q3, q4, q5⟩ := hh.cells; obtain ⟨n0, n1, n2, n3, n4, n5⟩ := hh.cellsN; clear b)
      | (go_at_call 10; refine (cF _).mono ?_; rintro r wF ⟨rfl, b⟩; replace hw := (hw.new _).below b; replace bel := new_below bel b; replace hh := hd_past hh b; clear q0 q1 q2 q3 q4 q5 n0 n1 n2 n3 n4 n5; obtain ⟨q0, q1, q2, q3, q4, q5⟩ := hh.cells; obtain ⟨n0, n1, n2, n3, n4, n5⟩ := hh.cellsN; clear b)
      | (go_at_call 11; refine (awake_any _ hw).mono ?_; rintro r wI ⟨rfl, b⟩; replace bel := seq_below bel b; clear b))
    go_ret
    exact ⟨rfl, bel⟩

set_option maxRecDepth 100000 in
set_option maxHeartbeats 8000000 in
theorem retires_free (W e : Nat) (x : Int) (m : Int) (g : Bool) (a : Int) (n : Int) (s : Int) (FV : Nat) (hn0 : 0 ≤ n) (h1 : n + 1 < x) (h2 : n < 4294967295)
    (c5 : ∀ w, Calls Tryd.prog 5 #[.int .u64 (W : Nat)] w fun r w' => r = .returned (.tuple #[.agg #[.int .i64 3, .int .i64 m, .bool g, .int .i64 a, .int .i64 n, .int .i64 s], .bool true]) ∧ Below w.heap.size w w')
    (c6 : ∀ w, WT w → Calls Tryd.prog 6 #[.int .u64 (W : Nat), .int .u64 (e : Nat)] w fun r w' => r = .returned (.tuple #[.int .u64 (W : Nat), .bool false]) ∧ Below w.heap.size w w')
    (c7 : ∀ w, WT w → Calls Tryd.prog 7 #[.int .u64 (W : Nat), .int .i64 x] w fun r w' => r = .returned (.tuple #[.int .u64 (FV : Nat), .bool true]) ∧ Below w.heap.size w w')
    (c8 : ∀ w, Calls Tryd.prog 8 #[.int .u64 (W : Nat)] w fun r w' => r = .returned (.bool false) ∧ Below w.heap.size w w')
    (cF : ∀ w, Calls Tryd.prog 10 #[.agg #[.int .i64 0, .int .i64 0, .bool false, .int .i64 0, .int .i64 (n + 1), .int .i64 0]] w fun r w' => r = .returned (.int .u64 (FV : Nat)) ∧ Below w.heap.size w w')
    (w : World) (hw : WT w) :
    Calls Tryd.prog 3 #[.int .u64 (W : Nat), .int .u64 (e : Nat), .int .i64 x] w fun r w' => r = .returned (.bool true) ∧ Below w.heap.size w w' := by
  have bel := Below.refl w.heap.size w
  have h3 : (n == 4294967295) = false := by simp; omega
  go_enter Tryd.func3, Tryd.ntmps3
  go_wp2_with (first
    | (go_at_call 5; refine (c5 _).mono ?_; rintro r wA ⟨rfl, b⟩; replace hw := hw.below b; replace bel := seq_below bel b; clear b)
    | (go_at_call 6; refine (c6 _ (hw.new _)).mono ?_; rintro r wB ⟨rfl, b⟩; replace hw := (hw.new _).below b; replace bel := new_below bel b; have hh := (hd_new wA _ _ _ _ _ _).below b; obtain ⟨q0, q1, q2, q3, q4, q5⟩ := hh.cells; obtain ⟨n0, n1, n2, n3, n4, n5⟩ := hh.cellsN; clear b)
    | (go_at_call 7; refine (c7 _ hw).mono ?_; rintro r wC ⟨rfl, b⟩; replace hw := hw.below b; replace bel := seq_below bel b; replace hh := hh.below b; clear q0 q1 q2 q3 q4 q5 n0 n1 n2 n3 n4 n5; obtain ⟨q0, q1, q2, q3, q4, q5⟩ := hh.cells; obtain ⟨n0, n1, n2, n3, n4, n5⟩ := hh.cellsN; clear b)
    | (go_at_call 8; refine (c8 _).mono ?_; rintro r wD ⟨rfl, b⟩; replace hw := hw.below b; replace bel := seq_below bel b; replace hh := hh.below b; clear q0 q1 q2 q3 q4 q5 n0 n1 n2 n3 n4 n5; obtain ⟨q0, q1, q2, q3, q4, q5⟩ := hh.cells; obtain ⟨n0, n1, n2, n3, n4, n5⟩ := hh.cellsN; clear b)
    | (go_at_call 10; refine (cF _).mono ?_; rintro r wF ⟨rfl, b⟩; replace hw := (hw.new _).below b; replace bel := new_below bel b; replace hh := hd_past hh b; clear q0 q1 q2 q3 q4 q5 n0 n1 n2 n3 n4 n5; obtain ⟨q0, q1, q2, q3, q4, q5⟩ := hh.cells; obtain ⟨n0, n1, n2, n3, n4, n5⟩ := hh.cellsN; clear b)
    | (go_at_call 11; refine (awake_any _ hw).mono ?_; rintro r wI ⟨rfl, b⟩; replace bel := seq_below bel b; clear b))
  go_ret
  exact ⟨rfl, bel⟩

theorem retires_walk (W e : Nat) (x : Int) (hW : W < 18446744073709551616) (he : e < 18446744073709551616) (w : World) (hw : WT w) :
    Calls Tryd.prog 3 #[.int .u64 (W : Nat), .int .u64 (e : Nat), .int .i64 x] w fun r w' => r = .returned (.bool true) ∧ Below w.heap.size w w' := by
  by_cases h : okW W = true
  · obtain ⟨K, M, g, A, N, S, hr, rfl⟩ := okW_parts hW h
    by_cases hk : K = 3
    · subst hk
      have h3 : whiteH ((3 : Nat) : Int) M e = false := rfl
      have hn := hr.n
      by_cases h1 : x ≤ (N : Int) + 1
      · exact retires_dead _ e x M g A N S (wordOf 4 M g.toNat A N S) (by omega) (by omega) (.inl h1) (fun w => runpack_word g hr w) (fun w hw => retired_not g hr e he h3 w hw)
          (fun w hw => freed_dead g hr x (by omega) w hw) (fun w => lives_word g hr w) (fun w => rpack_any 4 M g A N S (by decide) hr.m hr.a hr.n hr.s w) w hw
      · by_cases h2 : N = 4294967295
        · exact retires_dead _ e x M g A N S (wordOf 4 M g.toNat A N S) (by omega) (by omega) (.inr ⟨by omega, by omega⟩) (fun w => runpack_word g hr w) (fun w hw => retired_not g hr e he h3 w hw)
            (fun w hw => freed_dead g hr x (by omega) w hw) (fun w => lives_word g hr w) (fun w => rpack_any 4 M g A N S (by decide) hr.m hr.a hr.n hr.s w) w hw
        · exact retires_free _ e x M g A N S (wordOf 0 0 (false : Bool).toNat 0 (N + 1) 0) (by omega) (by omega) (by omega) (fun w => runpack_word g hr w) (fun w hw => retired_not g hr e he h3 w hw)
            (fun w hw => freed_free g hr x (by omega) (by omega) w hw) (fun w => lives_word g hr w) (fun w => by have c := rpack_any 0 0 false 0 (N + 1) 0 (by decide) (by decide) (by decide) (by omega) (by decide) w; rw [show ((N + 1 : Nat) : Int) = (N : Int) + 1 by omega] at c; exact c) w hw
    · refine retires_live _ e x K M g A N S true (usedK K) (usedK K && decide ((M : Int) = ((blackN e : Nat) : Int)))
        (if whiteH K M e = true then wordOf 3 M (false : Bool).toNat A N (stampN e) else wordOf K M g.toNat A N S)
        (fun hz => by rw [used_white] at hz; rw [hz]; rfl) (fun h => by simp at h; exact h.1) (fun _ => by omega)
        (fun w => runpack_word g hr w) ?_ (fun w hw => freed_not g hr x hk w hw) (fun w => lives_word g hr w)
        (fun w => rmarked_as _ e K M g A N S true (usedK K) he (fun w => runpack_word g hr w) (fun w => lives_word g hr w) w) ?_ w hw
      · intro w hw
        rw [used_white]
        by_cases hz : whiteH K M e = true
        · rw [if_pos hz, hz]; exact retired_word g hr e he hz w hw
        · rw [if_neg hz]
          have hz' : whiteH K M e = false := by simpa using hz
          rw [hz']; exact retired_not g hr e he hz' w hw
      · intro hz w
        rw [used_white] at hz
        rw [if_pos hz]
        have hst : (e : Int) % 65536 = ((stampN e : Nat) : Int) := by unfold stampN; omega
        rw [hst]
        exact rpack_any 3 M false A N (stampN e) (by decide) hr.m hr.a hr.n (Nat.mod_lt _ (by decide)) w
  · have hb : okW W = false := by simpa using h
    have c9 := fun w => rmarked_as W e 0 0 false 0 0 0 false false he (fun w => runpack_bad hW hb w) (fun w => lives_bad hW hb w) w
    exact retires_live W e x 0 0 false 0 0 0 false false false W (fun _ => rfl) (fun h => by cases h) (fun h => by cases h)
      (fun w => runpack_bad hW hb w) (fun w hw => retired_bad hW hb e w hw) (fun w hw => freed_bad hW hb x w hw) (fun w => lives_bad hW hb w) c9 (fun h => by cases h) w hw
end Go.Proofs.YtjoehcdkiooimacDoor
