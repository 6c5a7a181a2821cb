/- The ways through HeadPacks and HeadMade. -/
import Derived.Test.YtjoehcdkiooimabDoorHMore
namespace Go.Proofs.YtjoehcdkiooimabDoor
open Go.RowKit

theorem right_word {K M : Nat} {A N S : Nat} (h : Hr K M A N S) : rightH K M A N S = true := by
  have := h.k
  have := h.m
  have := h.a
  have := h.n
  have := h.s
  exact decide_eq_true (by omega)

theorem right_parts {k m a n s : Int} (h : rightH k m a n s = true) : ∃ K M A N S : Nat, Hr K M A N S ∧ k = (K : Int) ∧ m = (M : Int) ∧ a = (A : Int) ∧ n = (N : Int) ∧ s = (S : Int) := by
  have h' := of_decide_eq_true h
  exact ⟨k.toNat, m.toNat, a.toNat, n.toNat, s.toNat, ⟨by omega, by omega, by omega, by omega, by omega⟩, by omega, by omega, by omega, by omega, by omega⟩

set_option maxHeartbeats 1000000 in
theorem packs_yes {K M : Nat} (g : Bool) {A N S : Nat} (h : Hr K M A N S) (w : World) (hw : WT w) :
    Calls Tryd.prog 3 #[.agg #[.int .i64 (K : Nat), .int .i64 (M : Nat), .bool g, .int .i64 (A : Nat), .int .i64 (N : Nat), .int .i64 (S : Nat)]] w fun e w' => e = .returned (.bool true) ∧ Below w.heap.size w w' := by
  have g1 : Tryd.prog.eqGuardType Tryd.prog.depth 23 = false := by kernel_rfl
  have g2 : Tryd.prog.stoodInHeld 23 = false := by kernel_rfl
  have c1 := fun w hw => pack_word g h w hw
  have c2 := fun w => right_any K M g A N S w
  rw [right_word h] at c2
  have c3 := fun w hw => unpack_word g h w hw
  have c4 := fun w => rpack_any K M g A N S h.k h.m h.a h.n h.s w
  clear h
  generalize wordOf K M g.toNat A N S = W at *
  have bel := Below.refl w.heap.size w
  go_enter Tryd.func3, Tryd.ntmps3
  go_wp2_with (first
    | (go_at_call 7; refine (c1 _ (hw.new _)).mono ?_; rintro e wA ⟨rfl, b⟩; replace hw := (hw.new _).below b; replace bel := new_below bel b; have hh := (hd_new w _ _ _ _ _ _).below b; obtain ⟨q0, q1, q2, q3, q4, q5⟩ := hh.cells; clear b)
    | (go_at_call 8; refine (c2 _).mono ?_; rintro e wB ⟨rfl, b⟩; replace hw := hw.below b; replace bel := seq_below bel b; replace hh := hh.below b; clear q0 q1 q2 q3 q4 q5; obtain ⟨q0, q1, q2, q3, q4, q5⟩ := hh.cells; clear b)
    | (go_at_call 10; refine (c3 _ hw).mono ?_; rintro e wC ⟨rfl, b⟩; replace hw := hw.below b; replace bel := seq_below bel b; replace hh := hh.below b; clear q0 q1 q2 q3 q4 q5; obtain ⟨q0, q1, q2, q3, q4, q5⟩ := hh.cellsN; clear b)
    | (go_at_call 11; refine (c4 _).mono ?_; rintro e wD ⟨rfl, b⟩; have hh2 := (hd_new wC _ _ _ _ _ _).below b; replace hw := (hw.new _).below b; replace bel := new_below bel b; replace hh := hd_past hh b; clear q0 q1 q2 q3 q4 q5; obtain ⟨q0, q1, q2, q3, q4, q5⟩ := hh.cells; obtain ⟨r0, r1, r2, r3, r4, r5⟩ := hh2.cells; clear b)
    | (go_at_call 9; refine (awake_any _ hw).mono ?_; rintro e wE ⟨rfl, b⟩; replace bel := seq_below bel b; clear b))
  go_ret
  exact ⟨rfl, bel⟩

set_option maxHeartbeats 1000000 in
theorem packs_no (k m : Int) (g : Bool) (a n s : Int) (bm : In64 m) (ba : In64 a) (bn : In64 n) (bs : In64 s) (h : rightH k m a n s = false) (w : World) (hw : WT w) :
    Calls Tryd.prog 3 #[.agg #[.int .i64 k, .int .i64 m, .bool g, .int .i64 a, .int .i64 n, .int .i64 s]] w fun e w' => e = .returned (.bool true) ∧ Below w.heap.size w w' := by
  have c1 := fun w hw => hpack_no k m g a n s bm ba bn bs h w hw
  have c2 := fun w => right_any k m g a n s w
  rw [h] at c2
  clear h bm ba bn bs
  have bel := Below.refl w.heap.size w
  go_enter Tryd.func3, Tryd.ntmps3
  go_wp2_with (first
    | (go_at_call 7; refine (c1 _ (hw.new _)).mono ?_; rintro e wA ⟨rfl, b⟩; replace hw := (hw.new _).below b; replace bel := new_below bel b; have hh := (hd_new w _ _ _ _ _ _).below b; obtain ⟨q0, q1, q2, q3, q4, q5⟩ := hh.cells; clear b)
    | (go_at_call 8; refine (c2 _).mono ?_; rintro e wB ⟨rfl, b⟩; replace hw := hw.below b; replace bel := seq_below bel b; clear b)
    | (go_at_call 9; refine (awake_any _ hw).mono ?_; rintro e wE ⟨rfl, b⟩; replace bel := seq_below bel b; clear b))
  go_ret
  exact ⟨rfl, bel⟩

theorem packs_walk (k m : Int) (g : Bool) (a n s : Int) (bm : In64 m) (ba : In64 a) (bn : In64 n) (bs : In64 s) (w : World) (hw : WT w) :
    Calls Tryd.prog 3 #[.agg #[.int .i64 k, .int .i64 m, .bool g, .int .i64 a, .int .i64 n, .int .i64 s]] w fun e w' => e = .returned (.bool true) ∧ Below w.heap.size w w' := by
  by_cases h : rightH k m a n s = true
  · obtain ⟨K, M, A, N, S, hr, rfl, rfl, rfl, rfl, rfl⟩ := right_parts h
    exact packs_yes g hr w hw
  · exact packs_no k m g a n s bm ba bn bs (by simpa using h) w hw

set_option maxHeartbeats 1000000 in
theorem made_not (k a n : Int) (e : Nat) (h : usedK k = false) (w : World) :
    Calls Tryd.prog 13 #[.int .i64 k, .int .i64 a, .int .i64 n, .int .u64 (e : Nat)] w fun r w' => r = .returned (.tuple #[.int .u64 0, .bool false]) ∧ Below w.heap.size w w' := by
  have c := used_any k
  rw [h] at c
  go_enter Tryd.func13, Tryd.ntmps13
  go_wp2_with (first | (go_at_call 25; refine (c _).mono ?_; rintro r w1 ⟨rfl, rfl⟩))
  go_ret2
  exact ⟨rfl, Below.refl _ _⟩

set_option maxHeartbeats 1000000 in
theorem made_as (k a n : Int) (e : Nat) (he : e < 18446744073709551616) (h : usedK k = true) (V : Int) (z : Bool)
    (c3 : ∀ w, WT w → Calls Tryd.prog 7 #[.agg #[.int .i64 k, .int .i64 ((bornN e : Nat) : Int), .bool false, .int .i64 a, .int .i64 n, .int .i64 0]] w fun r w' => r = .returned (.tuple #[.int .u64 V, .bool z]) ∧ Below w.heap.size w w') (w : World) (hw : WT w) :
    Calls Tryd.prog 13 #[.int .i64 k, .int .i64 a, .int .i64 n, .int .u64 (e : Nat)] w fun r w' => r = .returned (.tuple #[.int .u64 V, .bool z]) ∧ Below w.heap.size w w' := by
  have c := used_any k
  rw [h] at c
  have c2 := tborn_nat e he
  have bel := Below.refl w.heap.size w
  go_enter Tryd.func13, Tryd.ntmps13
  go_wp2_with (first
    | (go_at_call 25; refine (c _).mono ?_; rintro r w1 ⟨rfl, rfl⟩)
    | (go_at_call 26; refine (c2 _).mono ?_; rintro r w1 ⟨rfl, b⟩; replace hw := hw.below b; replace bel := seq_below bel b; clear b)
    | (go_at_call 7; refine (c3 _ hw).mono ?_; rintro r w2 ⟨rfl, b⟩; replace bel := seq_below bel b; clear b))
  go_ret2
  exact ⟨rfl, bel⟩

set_option maxHeartbeats 1000000 in
theorem lmade_not (k a n : Int) (e : Nat) (he : e < 18446744073709551616) (h : usedK k = false) (w : World) (hw : WT w) :
    Calls Tryd.prog 5 #[.int .i64 k, .int .i64 a, .int .i64 n, .int .u64 (e : Nat)] w fun r w' => r = .returned (.bool true) ∧ Below w.heap.size w w' := by
  have c := made_not k a n e h
  have c2 := rborn_nat e he
  have k1 : ¬ k = 1 := fun h' => by subst h'; cases h
  have k2 : ¬ k = 2 := fun h' => by subst h'; cases h
  have n1 : (k != 1) = true := by simpa using k1
  have n2 : (k != 2) = true := by simpa using k2
  have bel := Below.refl w.heap.size w
  go_enter Tryd.func5, Tryd.ntmps5
  go_wp2_with (first
    | (go_at_call 13; refine (c _).mono ?_; rintro r w1 ⟨rfl, b⟩; replace hw := hw.below b; replace bel := seq_below bel b; clear b)
    | (go_at_call 14; refine (c2 _).mono ?_; rintro r w1 ⟨rfl, rfl⟩)
    | (go_at_call 9; refine (awake_any _ (hw.new _)).mono ?_; rintro e wE ⟨rfl, b⟩; replace bel := new_below bel b; clear b))
  go_ret
  exact ⟨rfl, bel⟩

set_option maxHeartbeats 1000000 in
theorem lmade_as (k a n : Int) (e : Nat) (he : e < 18446744073709551616) (hk : k = 1 ∨ k = 2) (V : Nat) (z : Bool) (hV : z = false → V = 0)
    (c : ∀ w, WT w → Calls Tryd.prog 13 #[.int .i64 k, .int .i64 a, .int .i64 n, .int .u64 (e : Nat)] w fun r w' => r = .returned (.tuple #[.int .u64 (V : Nat), .bool z]) ∧ Below w.heap.size w w')
    (c3 : ∀ w, Calls Tryd.prog 8 #[.agg #[.int .i64 k, .int .i64 ((bornN e : Nat) : Int), .bool false, .int .i64 a, .int .i64 n, .int .i64 0]] w fun r w' => r = .returned (.bool z) ∧ Below w.heap.size w w')
    (c4 : z = true → ∀ w, Calls Tryd.prog 11 #[.agg #[.int .i64 k, .int .i64 ((bornN e : Nat) : Int), .bool false, .int .i64 a, .int .i64 n, .int .i64 0]] w fun r w' => r = .returned (.int .u64 (V : Nat)) ∧ Below w.heap.size w w')
    (w : World) (hw : WT w) :
    Calls Tryd.prog 5 #[.int .i64 k, .int .i64 a, .int .i64 n, .int .u64 (e : Nat)] w fun r w' => r = .returned (.bool true) ∧ Below w.heap.size w w' := by
  have c2 := rborn_nat e he
  have bel := Below.refl w.heap.size w
  cases z
  · have hV0 := hV rfl
    subst hV0
    clear c4 hV
    rcases hk with rfl | rfl
    all_goals
      go_enter Tryd.func5, Tryd.ntmps5
      go_wp2_with (first
        | (go_at_call 13; refine (c _ hw).mono ?_; rintro r w1 ⟨rfl, b⟩; replace hw := hw.below b; replace bel := seq_below bel b; clear b)
        | (go_at_call 14; refine (c2 _).mono ?_; rintro r w1 ⟨rfl, rfl⟩)
        | (go_at_call 8; refine (c3 _).mono ?_; rintro r w2 ⟨rfl, b⟩; replace hw := (hw.new _).below b; replace bel := new_below bel b; clear b)
        | (go_at_call 9; refine (awake_any _ hw).mono ?_; rintro e wE ⟨rfl, b⟩; replace bel := seq_below bel b; clear b))
      go_ret
      exact ⟨rfl, bel⟩
  · have c5 := c4 rfl
    clear c4 hV
    rcases hk with rfl | rfl
    all_goals
      go_enter Tryd.func5, Tryd.ntmps5
      go_wp2_with (first
        | (go_at_call 13; refine (c _ hw).mono ?_; rintro r wA ⟨rfl, b⟩; replace hw := hw.below b; replace bel := seq_below bel b; clear b)
        | (go_at_call 14; refine (c2 _).mono ?_; rintro r w1 ⟨rfl, rfl⟩)
        | (go_at_call 8; refine (c3 _).mono ?_; rintro r wB ⟨rfl, b⟩; replace hw := (hw.new _).below b; have hh := (hd_new wA _ _ _ _ _ _).below b; obtain ⟨q0, q1, q2, q3, q4, q5⟩ := hh.cells; replace bel := new_below bel b; clear b)
        | (go_at_call 11; refine (c5 _).mono ?_; rintro r wC ⟨rfl, b⟩; replace hw := hw.below b; replace bel := seq_below bel b; clear b)
        | (go_at_call 9; refine (awake_any _ hw).mono ?_; rintro e wE ⟨rfl, b⟩; replace bel := seq_below bel b; clear b))
      go_ret
      exact ⟨rfl, bel⟩

theorem lmade_walk (k a n : Int) (e : Nat) (he : e < 18446744073709551616) (ba : In64 a) (bn : In64 n) (w : World) (hw : WT w) :
    Calls Tryd.prog 5 #[.int .i64 k, .int .i64 a, .int .i64 n, .int .u64 (e : Nat)] w fun r w' => r = .returned (.bool true) ∧ Below w.heap.size w w' := by
  have hb := bornN_lt e
  by_cases hu : usedK k = true
  · have hk : k = 1 ∨ k = 2 := by simpa [usedK] using hu
    by_cases hr : rightH k ((bornN e : Nat) : Int) a n 0 = true
    · obtain ⟨K, M, A, N, S, h, rfl, hM, rfl, rfl, hS⟩ := right_parts hr
      obtain rfl : bornN e = M := by omega
      obtain rfl : S = 0 := by omega
      exact lmade_as K A N e he hk (wordOf K (bornN e) (false : Bool).toNat A N 0) true (fun h => by cases h) (fun w hw => made_as K A N e he hu _ true (fun w hw => pack_word false h w hw) w hw)
        (fun w => by have c := right_any K (bornN e : Nat) false A N ((0 : Nat) : Int) w; rw [right_word h] at c; exact c) (fun _ w => rpack_any K (bornN e) false A N 0 h.k h.m h.a h.n h.s w) w hw
    · have hr' : rightH k ((bornN e : Nat) : Int) a n 0 = false := by simpa using hr
      exact lmade_as k a n e he hk 0 false (fun _ => rfl) (fun w hw => made_as k a n e he hu 0 false (fun w hw => hpack_no k _ false a n 0 (by unfold In64; omega) ba bn (by unfold In64; omega) hr' w hw) w hw)
        (fun w => by have c := right_any k (bornN e : Nat) false a n 0 w; rw [hr'] at c; exact c) (fun h => by cases h) w hw
  · exact lmade_not k a n e he (by simpa using hu) w hw
end Go.Proofs.YtjoehcdkiooimabDoor
