/- The law of no machine, walked. -/
import Derived.Test.YtpfcpkkillklkabDoorDAwake
namespace Go.Proofs.YtpfcpkkillklkabDoor
open Go.RowKit
open Hh (WT)

structure Nn (w wr : World) (s a c d g k : Int) : Prop where
  cfg : IsCfg wr w.heap.size s a c d g k
  bel : Below w.heap.size w wr
  wt : WT wr
theorem Nn.below {w wr w' : World} {s a c d g k : Int} (h : Nn w wr s a c d g k) (b : Below wr.heap.size wr w') : Nn w w' s a c d g k := ⟨h.cfg.below b, seq_below h.bel b, h.wt.below b⟩

theorem in_reg {f : Nat} {args : Array Value} {v : Value} (c : ∀ w, Calls Tryd.prog f args w fun e w' => e = .returned v ∧ Below w.heap.size w w') (w0 : World) : ∀ w', Below w0.heap.size w0 w' → Calls Tryd.prog f args w' fun e w'' => e = .returned v ∧ Below w0.heap.size w0 w'' :=
  fun w' hw' => (c w').mono fun _ _ ⟨he, hb⟩ => ⟨he, seq_below hw' hb⟩
theorem in_regW {f : Nat} {args : Array Value} {v : Value} (c : ∀ w, WT w → Calls Tryd.prog f args w fun e w' => e = .returned v ∧ Below w.heap.size w w') (w0 : World) (h : WT w0) : ∀ w', Below w0.heap.size w0 w' → Calls Tryd.prog f args w' fun e w'' => e = .returned v ∧ Below w0.heap.size w0 w'' :=
  fun w' hw' => (c w' (h.below hw')).mono fun _ _ ⟨he, hb⟩ => ⟨he, seq_below hw' hb⟩
set_option maxHeartbeats 4000000 in
theorem none_as {s a c d g k i : Int} {r t : Bool} (e : Nat) (w : World) (hw : WT w)
    (c1 : ∀ w, Calls Tryd.prog 9 #[.agg (cs s a c d g k), .int .i64 i, .int .u64 (e : Nat)] w fun e w' => (∃ b, e = .returned (.pointer b) ∧ b.isSome = t) ∧ Below w.heap.size w w')
    (hr : rightB s a c d g k = r) (ht : (r && be i s) = t) :
    Calls Tryd.prog 5 #[.agg (cs s a c d g k), .int .i64 i, .int .u64 (e : Nat)] w fun e w' => e = .returned (.bool true) ∧ Below w.heap.size w w' := by
  have c4 := rright_any s a c d g k
  rw [hr] at c4
  have c5 := awake_any
  have h15 := shd_nil (.pointer none)
  have nn : Nn w (w.alloc (.cells #[.int .i64 s, .int .i64 a, .int .i64 c, .int .i64 d, .int .i64 g, .int .i64 k] 23)) s a c d g k := ⟨cfg_new w s a c d g k, alloc_below w _, hw.below (alloc_below w _)⟩
  go_enter Tryd.func5, Tryd.ntmps5
  go_upto_region 1 with fail
  generalize w.alloc (.cells #[.int .i64 s, .int .i64 a, .int .i64 c, .int .i64 d, .int .i64 g, .int .i64 k] 23) = w0 at *
  obtain ⟨l0, l1, l2, l3, l4, l5⟩ := nn.cfg.cells
  have ht' : (r = true → 0 ≤ i → decide (i < s) = t) ∧ (r = true → ¬ 0 ≤ i → t = false) ∧ (r = false → t = false) := by
    subst ht
    refine ⟨fun h h0 => ?_, fun h h0 => ?_, fun h => ?_⟩
    · subst h; simp [be, h0]
    · subst h; simp [be, h0]
    · subst h; rfl
  cases r
  · obtain rfl : t = false := ht'.2.2 rfl
    clear ht ht' hr hw
    go_upto_region 2 with fail
    clear l0 l1 l2 l3 l4 l5
    have ec1 := in_reg (fun w => (c1 w).mono fun e w' ⟨⟨b, he, hb⟩, hbl⟩ => (⟨by obtain rfl : b = none := by simpa using hb
                                                                                 exact he, hbl⟩ : e = .returned (.pointer none) ∧ _)) w0
    have ec4 := in_reg c4 w0
    have eh := in_reg (fun w => (h15 w).mono fun e w' ⟨he, hw⟩ => (⟨he, hw ▸ Below.refl _ _⟩ : _ ∧ Below w.heap.size w w')) w0
    have ec5 := in_regW c5 w0 nn.wt
    have e2 : ∀ w', Below w0.heap.size w0 w' → _ := fun w' hw' => (nn.cfg.below hw').cells
    refine region_below (by kernel_rfl) (by kernel_rfl) ?_
    repeat (first | go_big_quiet_skip | (go_big_quiet_want; go_big_quiet_op; first | go_big_quiet_on | (refine ⟨_, fun _ _ => rfl, ?_⟩; go_big_quiet_on) | (with_reducible refine ⟨_, ec1, ?_⟩; go_big_quiet_on) | (with_reducible refine ⟨_, ec4, ?_⟩; go_big_quiet_on) | (with_reducible refine ⟨_, eh, ?_⟩; go_big_quiet_on) | (with_reducible refine ⟨_, ec5, ?_⟩; go_big_quiet_on) | (refine ⟨.agg (cs s a c d g k), ?_, ?_⟩; (focus (intro w' hw'; obtain ⟨l0, l1, l2, l3, l4, l5⟩ := e2 w' hw'; simp [l0, l1, l2, l3, l4, l5, Result.andThen]; done)); go_big_quiet_on) | (refine ⟨.int .i64 s, ?_, ?_⟩; (focus (intro w' hw'; obtain ⟨l0, l1, l2, l3, l4, l5⟩ := e2 w' hw'; simp [l0, Result.andThen]; done)); go_big_quiet_on)))
    refine wpQuiet_nil ?_
    intro w8 hb8
    replace nn := nn.below hb8
    clear e2 ec1 ec4 eh ec5
    go_wp2
    go_ret
    exact ⟨rfl, nn.bel⟩
  · by_cases h0 : 0 ≤ i
    · have hd := ht'.1 rfl h0
      have h0d : decide (0 ≤ i) = true := decide_eq_true h0
      clear ht ht' hr hw
      cases t
      · have h1 : s ≤ i := by simpa using hd
        go_upto_region 2 with fail
        clear l0 l1 l2 l3 l4 l5
        have ec1 := in_reg (fun w => (c1 w).mono fun e w' ⟨⟨b, he, hb⟩, hbl⟩ => (⟨by obtain rfl : b = none := by simpa using hb
                                                                                     exact he, hbl⟩ : e = .returned (.pointer none) ∧ _)) w0
        have ec4 := in_reg c4 w0
        have eh := in_reg (fun w => (h15 w).mono fun e w' ⟨he, hw⟩ => (⟨he, hw ▸ Below.refl _ _⟩ : _ ∧ Below w.heap.size w w')) w0
        have ec5 := in_regW c5 w0 nn.wt
        have e2 : ∀ w', Below w0.heap.size w0 w' → _ := fun w' hw' => (nn.cfg.below hw').cells
        refine region_below (by kernel_rfl) (by kernel_rfl) ?_
        repeat (first | go_big_quiet_skip | (go_big_quiet_want; go_big_quiet_op; first | go_big_quiet_on | (refine ⟨_, fun _ _ => rfl, ?_⟩; go_big_quiet_on) | (with_reducible refine ⟨_, ec1, ?_⟩; go_big_quiet_on) | (with_reducible refine ⟨_, ec4, ?_⟩; go_big_quiet_on) | (with_reducible refine ⟨_, eh, ?_⟩; go_big_quiet_on) | (with_reducible refine ⟨_, ec5, ?_⟩; go_big_quiet_on) | (refine ⟨.agg (cs s a c d g k), ?_, ?_⟩; (focus (intro w' hw'; obtain ⟨l0, l1, l2, l3, l4, l5⟩ := e2 w' hw'; simp [l0, l1, l2, l3, l4, l5, Result.andThen]; done)); go_big_quiet_on) | (refine ⟨.int .i64 s, ?_, ?_⟩; (focus (intro w' hw'; obtain ⟨l0, l1, l2, l3, l4, l5⟩ := e2 w' hw'; simp [l0, Result.andThen]; done)); go_big_quiet_on)))
        refine wpQuiet_nil ?_
        intro w8 hb8
        replace nn := nn.below hb8
        clear e2 ec1 ec4 eh ec5
        go_wp2
        go_ret
        exact ⟨rfl, nn.bel⟩
      · have h1 : i < s := by simpa using hd
        go_upto_region 2 with fail
        clear l0 l1 l2 l3 l4 l5
        replace nn := nn.below (Below.refl w0.heap.size w0).drew
        go_region_held (fun wr => wr.cell? ⟨w.heap.size, 0, none⟩ = some (.int .i64 s) ∧ wr.cell? ⟨w.heap.size, 1, none⟩ = some (.int .i64 a) ∧ wr.cell? ⟨w.heap.size, 2, none⟩ = some (.int .i64 c) ∧ wr.cell? ⟨w.heap.size, 3, none⟩ = some (.int .i64 d) ∧ wr.cell? ⟨w.heap.size, 4, none⟩ = some (.int .i64 g) ∧ wr.cell? ⟨w.heap.size, 5, none⟩ = some (.int .i64 k)) (with_reducible exact nn.cfg.cells) (first
          | (go_at_call 9; with_reducible refine (c1 _).mono ?_; rintro e w3 ⟨⟨P, rfl, hP⟩, hb⟩; replace nn := nn.below hb; obtain ⟨P', rfl⟩ := Option.isSome_iff_exists.1 hP)
          | (go_at_call 18; with_reducible refine (c4 _).mono ?_; rintro e w3 ⟨rfl, hb⟩; replace nn := nn.below hb)
          | (go_at_call 15; with_reducible refine (h15 _).mono ?_; rintro e w3 ⟨rfl, rfl⟩)
          | (go_at_call 10; with_reducible refine (c5 _ nn.wt).mono ?_; rintro e w3 ⟨rfl, hb⟩; replace nn := nn.below hb))
        all_goals
          go_wp2
          go_ret
          exact ⟨rfl, nn.bel⟩
    · obtain rfl : t = false := ht'.2.1 rfl h0
      have h1 : i < 0 := by omega
      have h0d : decide (0 ≤ i) = false := decide_eq_false h0
      clear ht ht' hr h0 hw
      go_upto_region 2 with fail
      clear l0 l1 l2 l3 l4 l5
      have ec1 := in_reg (fun w => (c1 w).mono fun e w' ⟨⟨b, he, hb⟩, hbl⟩ => (⟨by obtain rfl : b = none := by simpa using hb
                                                                                   exact he, hbl⟩ : e = .returned (.pointer none) ∧ _)) w0
      have ec4 := in_reg c4 w0
      have eh := in_reg (fun w => (h15 w).mono fun e w' ⟨he, hw⟩ => (⟨he, hw ▸ Below.refl _ _⟩ : _ ∧ Below w.heap.size w w')) w0
      have ec5 := in_regW c5 w0 nn.wt
      have e2 : ∀ w', Below w0.heap.size w0 w' → _ := fun w' hw' => (nn.cfg.below hw').cells
      refine region_below (by kernel_rfl) (by kernel_rfl) ?_
      repeat (first | go_big_quiet_skip | (go_big_quiet_want; go_big_quiet_op; first | go_big_quiet_on | (refine ⟨_, fun _ _ => rfl, ?_⟩; go_big_quiet_on) | (with_reducible refine ⟨_, ec1, ?_⟩; go_big_quiet_on) | (with_reducible refine ⟨_, ec4, ?_⟩; go_big_quiet_on) | (with_reducible refine ⟨_, eh, ?_⟩; go_big_quiet_on) | (with_reducible refine ⟨_, ec5, ?_⟩; go_big_quiet_on) | (refine ⟨.agg (cs s a c d g k), ?_, ?_⟩; (focus (intro w' hw'; obtain ⟨l0, l1, l2, l3, l4, l5⟩ := e2 w' hw'; simp [l0, l1, l2, l3, l4, l5, Result.andThen]; done)); go_big_quiet_on) | (refine ⟨.int .i64 s, ?_, ?_⟩; (focus (intro w' hw'; obtain ⟨l0, l1, l2, l3, l4, l5⟩ := e2 w' hw'; simp [l0, Result.andThen]; done)); go_big_quiet_on)))
      refine wpQuiet_nil ?_
      intro w8 hb8
      replace nn := nn.below hb8
      clear e2 ec1 ec4 eh ec5
      go_wp2
      go_ret
      exact ⟨rfl, nn.bel⟩

theorem none_law (s a c d g k i : Int) (e : Nat) (w : World) (hw : WT w) : Calls Tryd.prog 5 #[.agg (cs s a c d g k), .int .i64 i, .int .u64 (e : Nat)] w fun e w' => e = .returned (.bool true) ∧ Below w.heap.size w w' := by
  have c1 : ∀ w, Calls Tryd.prog 9 #[.agg (cs s a c d g k), .int .i64 i, .int .u64 (e : Nat)] w fun e w' => (∃ b, e = .returned (.pointer b) ∧ b.isSome = (rightB s a c d g k && be i s)) ∧ Below w.heap.size w w' := fun w => by
    cases hr : rightB s a c d g k && be i s
    · exact (newShade_no i e hr w).mono fun e w' ⟨he, hb⟩ => ⟨⟨_, he, rfl⟩, hb⟩
    · rw [Bool.and_eq_true] at hr
      obtain ⟨h1, h2⟩ := hr
      obtain ⟨K, hK, rfl, rfl, rfl, rfl, rfl, rfl⟩ := Cf.of_right h1
      obtain ⟨h3, h4⟩ := be_iff.1 h2
      obtain ⟨j, rfl⟩ := Int.eq_ofNat_of_zero_le h3
      exact (newShade_yes hK j (by omega) e w).mono fun e w' ⟨P, he, _, _, hb⟩ => ⟨⟨_, he, rfl⟩, hb⟩
  exact none_as e w hw c1 rfl rfl
end Go.Proofs.YtpfcpkkillklkabDoor
