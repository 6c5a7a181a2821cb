/- The law of no machine, walked. -/
import Derived.Test.YtpfcpkkillklkaaEAwake
namespace Go.Proofs.Ytpfcpkkillklkaa
open Go.RowKit

/-- What is known of the world. -/
structure Nn (w wr : World) (s a c d g k : Int) : Prop where
  cfg : IsCfg wr w.heap.size s a c d g k
  bel : Below w.heap.size w wr
theorem Nn.below {w wr w' : World} {s a c d g k : Int} (h : Nn w wr s a c d g k) (b : Below wr.heap.size wr w') : Nn w w' s a c d g k := ⟨h.cfg.below b, seq_below h.bel b⟩

set_option maxHeartbeats 4000000 in
theorem none_as {s a c d g k i : Int} {r t : Bool} (w : World)
    (c1 : ∀ w, Calls Try.prog 16 #[.agg (cs s a c d g k), .int .i64 i] w fun e w' => (∃ b, e = .returned (.pointer b) ∧ b.isSome = t) ∧ Below w.heap.size w w')
    (c2 : ∀ w, Calls Try.prog 18 #[.agg (cs s a c d g k), .int .i64 i] w fun e w' => (∃ b, e = .returned (.pointer b) ∧ b.isSome = t) ∧ Below w.heap.size w w')
    (c3 : ∀ w, Calls Try.prog 11 #[.agg (cs s a c d g k)] w fun e w' => (∃ b, e = .returned (.pointer b) ∧ b.isSome = r) ∧ Below w.heap.size w w')
    (hr : rightB s a c d g k = r) (ht : (r && be i c) = t) :
    Calls Try.prog 7 #[.agg (cs s a c d g k), .int .i64 i] w fun e w' => e = .returned (.bool true) ∧ Below w.heap.size w w' := by
  have c4 := rright_any s a c d g k
  rw [hr] at c4
  have c5 := awake_any
  have h17 := pin_nil (.pointer none)
  have h19 := leave_nil (.pointer none)
  have h14 := adv_nil (.pointer none)
  have nn : Nn w (w.alloc (.cells #[.int .i64 s, .int .i64 a, .int .i64 c, .int .i64 d, .int .i64 g, .int .i64 k] 23)) s a c d g k := ⟨cfg_new w s a c d g k, alloc_below w _⟩
  go_enter Try.func7, Try.ntmps7
  go_upto_region 1 with fail
  generalize w.alloc (.cells #[.int .i64 s, .int .i64 a, .int .i64 c, .int .i64 d, .int .i64 g, .int .i64 k] 23) = w0 at *
  obtain ⟨l0, l1, l2, l3, l4, l5⟩ := nn.cfg.cells
  have ht' : (r = true → 0 ≤ i → decide (i < c) = t) ∧ (r = true → ¬ 0 ≤ i → t = false) ∧ (r = false → t = false) := by
    subst ht
    refine ⟨fun h h0 => ?_, fun h h0 => ?_, fun h => ?_⟩
    · subst h; simp [be, h0]
    · subst h; simp [be, h0]
    · subst h; rfl
  cases r
  · obtain rfl : t = false := ht'.2.2 rfl
    clear ht ht' hr
    go_upto_region 5 with (first
      | (go_at_call 23; refine (c4 _).mono ?_; rintro e w5 ⟨rfl, hb⟩; replace nn := nn.below hb; clear l0 l1 l2 l3 l4 l5; obtain ⟨l0, l1, l2, l3, l4, l5⟩ := nn.cfg.cells))
    replace nn := nn.below (Below.refl w5.heap.size w5).drew
    go_region_held (fun wr => wr.cell? ⟨w.heap.size, 0, none⟩ = some (.int .i64 s) ∧ wr.cell? ⟨w.heap.size, 1, none⟩ = some (.int .i64 a) ∧ wr.cell? ⟨w.heap.size, 2, none⟩ = some (.int .i64 c) ∧ wr.cell? ⟨w.heap.size, 3, none⟩ = some (.int .i64 d) ∧ wr.cell? ⟨w.heap.size, 4, none⟩ = some (.int .i64 g) ∧ wr.cell? ⟨w.heap.size, 5, none⟩ = some (.int .i64 k)) (with_reducible exact nn.cfg.cells) (first
      | (go_at_call 16; with_reducible refine (c1 _).mono ?_; rintro e w3 ⟨⟨P, rfl, hP⟩, hb⟩; replace nn := nn.below hb; obtain rfl : P = none := by simpa using hP)
      | (go_at_call 18; with_reducible refine (c2 _).mono ?_; rintro e w3 ⟨⟨P, rfl, hP⟩, hb⟩; replace nn := nn.below hb; obtain rfl : P = none := by simpa using hP)
      | (go_at_call 11; with_reducible refine (c3 _).mono ?_; rintro e w3 ⟨⟨P, rfl, hP⟩, hb⟩; replace nn := nn.below hb; obtain rfl : P = none := by simpa using hP)
      | (go_at_call 23; with_reducible refine (c4 _).mono ?_; rintro e w3 ⟨rfl, hb⟩; replace nn := nn.below hb)
      | (go_at_call 17; with_reducible refine (h17 _).mono ?_; rintro e w3 ⟨rfl, rfl⟩)
      | (go_at_call 19; with_reducible refine (h19 _).mono ?_; rintro e w3 ⟨rfl, rfl⟩)
      | (go_at_call 14; with_reducible refine (h14 _).mono ?_; rintro e w3 ⟨rfl, rfl⟩)
      | (go_at_call 10; with_reducible refine (c5 _).mono ?_; rintro e w3 ⟨rfl, hb⟩; replace nn := nn.below hb))
    go_wp2
    go_ret
    exact ⟨rfl, nn.bel⟩
  · by_cases h0 : 0 ≤ i
    · have hd := ht'.1 rfl h0
      clear ht ht' hr
      cases t
      · have h1 : c ≤ i := by simpa using hd
        go_upto_region 5 with (first
          | (go_at_call 23; refine (c4 _).mono ?_; rintro e w5 ⟨rfl, hb⟩; replace nn := nn.below hb; clear l0 l1 l2 l3 l4 l5; obtain ⟨l0, l1, l2, l3, l4, l5⟩ := nn.cfg.cells))
        replace nn := nn.below (Below.refl w5.heap.size w5).drew
        go_region_held (fun wr => wr.cell? ⟨w.heap.size, 0, none⟩ = some (.int .i64 s) ∧ wr.cell? ⟨w.heap.size, 1, none⟩ = some (.int .i64 a) ∧ wr.cell? ⟨w.heap.size, 2, none⟩ = some (.int .i64 c) ∧ wr.cell? ⟨w.heap.size, 3, none⟩ = some (.int .i64 d) ∧ wr.cell? ⟨w.heap.size, 4, none⟩ = some (.int .i64 g) ∧ wr.cell? ⟨w.heap.size, 5, none⟩ = some (.int .i64 k)) (with_reducible exact nn.cfg.cells) (first
          | (go_at_call 16; with_reducible refine (c1 _).mono ?_; rintro e w3 ⟨⟨P, rfl, hP⟩, hb⟩; replace nn := nn.below hb; obtain rfl : P = none := by simpa using hP)
          | (go_at_call 18; with_reducible refine (c2 _).mono ?_; rintro e w3 ⟨⟨P, rfl, hP⟩, hb⟩; replace nn := nn.below hb; obtain rfl : P = none := by simpa using hP)
          | (go_at_call 11; with_reducible refine (c3 _).mono ?_; rintro e w3 ⟨⟨P, rfl, hP⟩, hb⟩; replace nn := nn.below hb; obtain ⟨P', rfl⟩ := Option.isSome_iff_exists.1 hP)
          | (go_at_call 23; with_reducible refine (c4 _).mono ?_; rintro e w3 ⟨rfl, hb⟩; replace nn := nn.below hb)
          | (go_at_call 17; with_reducible refine (h17 _).mono ?_; rintro e w3 ⟨rfl, rfl⟩)
          | (go_at_call 19; with_reducible refine (h19 _).mono ?_; rintro e w3 ⟨rfl, rfl⟩)
          | (go_at_call 14; with_reducible refine (h14 _).mono ?_; rintro e w3 ⟨rfl, rfl⟩)
          | (go_at_call 10; with_reducible refine (c5 _).mono ?_; rintro e w3 ⟨rfl, hb⟩; replace nn := nn.below hb))
        go_wp2
        go_ret
        exact ⟨rfl, nn.bel⟩
      · have h1 : i < c := by simpa using hd
        go_upto_region 5 with (first
          | (go_at_call 23; refine (c4 _).mono ?_; rintro e w5 ⟨rfl, hb⟩; replace nn := nn.below hb; clear l0 l1 l2 l3 l4 l5; obtain ⟨l0, l1, l2, l3, l4, l5⟩ := nn.cfg.cells))
        replace nn := nn.below (Below.refl w5.heap.size w5).drew
        go_region_held (fun wr => wr.cell? ⟨w.heap.size, 0, none⟩ = some (.int .i64 s) ∧ wr.cell? ⟨w.heap.size, 1, none⟩ = some (.int .i64 a) ∧ wr.cell? ⟨w.heap.size, 2, none⟩ = some (.int .i64 c) ∧ wr.cell? ⟨w.heap.size, 3, none⟩ = some (.int .i64 d) ∧ wr.cell? ⟨w.heap.size, 4, none⟩ = some (.int .i64 g) ∧ wr.cell? ⟨w.heap.size, 5, none⟩ = some (.int .i64 k)) (with_reducible exact nn.cfg.cells) (first
          | (go_at_call 16; with_reducible refine (c1 _).mono ?_; rintro e w3 ⟨⟨P, rfl, hP⟩, hb⟩; replace nn := nn.below hb; obtain ⟨P', rfl⟩ := Option.isSome_iff_exists.1 hP)
          | (go_at_call 18; with_reducible refine (c2 _).mono ?_; rintro e w3 ⟨⟨P, rfl, hP⟩, hb⟩; replace nn := nn.below hb; obtain ⟨P', rfl⟩ := Option.isSome_iff_exists.1 hP)
          | (go_at_call 11; with_reducible refine (c3 _).mono ?_; rintro e w3 ⟨⟨P, rfl, hP⟩, hb⟩; replace nn := nn.below hb; obtain ⟨P', rfl⟩ := Option.isSome_iff_exists.1 hP)
          | (go_at_call 23; with_reducible refine (c4 _).mono ?_; rintro e w3 ⟨rfl, hb⟩; replace nn := nn.below hb)
          | (go_at_call 17; with_reducible refine (h17 _).mono ?_; rintro e w3 ⟨rfl, rfl⟩)
          | (go_at_call 19; with_reducible refine (h19 _).mono ?_; rintro e w3 ⟨rfl, rfl⟩)
          | (go_at_call 14; with_reducible refine (h14 _).mono ?_; rintro e w3 ⟨rfl, rfl⟩)
          | (go_at_call 10; with_reducible refine (c5 _).mono ?_; rintro e w3 ⟨rfl, hb⟩; replace nn := nn.below hb))
        go_wp2
        go_ret
        exact ⟨rfl, nn.bel⟩
    · obtain rfl : t = false := ht'.2.1 rfl h0
      have h1 : i < 0 := by omega
      clear ht ht' hr h0
      go_upto_region 5 with (first
        | (go_at_call 23; refine (c4 _).mono ?_; rintro e w5 ⟨rfl, hb⟩; replace nn := nn.below hb; clear l0 l1 l2 l3 l4 l5; obtain ⟨l0, l1, l2, l3, l4, l5⟩ := nn.cfg.cells))
      replace nn := nn.below (Below.refl w5.heap.size w5).drew
      go_region_held (fun wr => wr.cell? ⟨w.heap.size, 0, none⟩ = some (.int .i64 s) ∧ wr.cell? ⟨w.heap.size, 1, none⟩ = some (.int .i64 a) ∧ wr.cell? ⟨w.heap.size, 2, none⟩ = some (.int .i64 c) ∧ wr.cell? ⟨w.heap.size, 3, none⟩ = some (.int .i64 d) ∧ wr.cell? ⟨w.heap.size, 4, none⟩ = some (.int .i64 g) ∧ wr.cell? ⟨w.heap.size, 5, none⟩ = some (.int .i64 k)) (with_reducible exact nn.cfg.cells) (first
        | (go_at_call 16; with_reducible refine (c1 _).mono ?_; rintro e w3 ⟨⟨P, rfl, hP⟩, hb⟩; replace nn := nn.below hb; obtain rfl : P = none := by simpa using hP)
        | (go_at_call 18; with_reducible refine (c2 _).mono ?_; rintro e w3 ⟨⟨P, rfl, hP⟩, hb⟩; replace nn := nn.below hb; obtain rfl : P = none := by simpa using hP)
        | (go_at_call 11; with_reducible refine (c3 _).mono ?_; rintro e w3 ⟨⟨P, rfl, hP⟩, hb⟩; replace nn := nn.below hb; obtain ⟨P', rfl⟩ := Option.isSome_iff_exists.1 hP)
        | (go_at_call 23; with_reducible refine (c4 _).mono ?_; rintro e w3 ⟨rfl, hb⟩; replace nn := nn.below hb)
        | (go_at_call 17; with_reducible refine (h17 _).mono ?_; rintro e w3 ⟨rfl, rfl⟩)
        | (go_at_call 19; with_reducible refine (h19 _).mono ?_; rintro e w3 ⟨rfl, rfl⟩)
        | (go_at_call 14; with_reducible refine (h14 _).mono ?_; rintro e w3 ⟨rfl, rfl⟩)
        | (go_at_call 10; with_reducible refine (c5 _).mono ?_; rintro e w3 ⟨rfl, hb⟩; replace nn := nn.below hb))
      go_wp2
      go_ret
      exact ⟨rfl, nn.bel⟩

theorem none_law (s a c d g k i : Int) (w : World) : Calls Try.prog 7 #[.agg (cs s a c d g k), .int .i64 i] w fun e w' => e = .returned (.bool true) ∧ Below w.heap.size w w' := by
  have c3 : ∀ w, Calls Try.prog 11 #[.agg (cs s a c d g k)] w fun e w' => (∃ b, e = .returned (.pointer b) ∧ b.isSome = rightB s a c d g k) ∧ Below w.heap.size w w' := fun w => by
    cases hr : rightB s a c d g k
    · exact (newAdv_no hr w).mono fun e w' ⟨he, hb⟩ => ⟨⟨_, he, rfl⟩, hb⟩
    · exact (newAdv_yes hr w).mono fun e w' ⟨P, he, _, _, hb⟩ => ⟨⟨_, he, rfl⟩, hb⟩
  have c1 : ∀ w, Calls Try.prog 16 #[.agg (cs s a c d g k), .int .i64 i] w fun e w' => (∃ b, e = .returned (.pointer b) ∧ b.isSome = (rightB s a c d g k && be i c)) ∧ Below w.heap.size w w' := fun w => by
    cases hr : rightB s a c d g k && be i c
    · exact (newPin_no i hr w).mono fun e w' ⟨he, hb⟩ => ⟨⟨_, he, rfl⟩, hb⟩
    · rw [Bool.and_eq_true] at hr
      obtain ⟨h1, h2⟩ := hr
      obtain ⟨K, hK, rfl, rfl, rfl, rfl, rfl, rfl⟩ := Cf.of_right h1
      obtain ⟨h3, h4⟩ := be_iff.1 h2
      obtain ⟨j, rfl⟩ := Int.eq_ofNat_of_zero_le h3
      exact (newPin_yes hK j (by omega) w).mono fun e w' ⟨P, he, _, _, hb⟩ => ⟨⟨_, he, rfl⟩, hb⟩
  have c2 : ∀ w, Calls Try.prog 18 #[.agg (cs s a c d g k), .int .i64 i] w fun e w' => (∃ b, e = .returned (.pointer b) ∧ b.isSome = (rightB s a c d g k && be i c)) ∧ Below w.heap.size w w' := fun w => by
    cases hr : rightB s a c d g k && be i c
    · exact (newLeave_no i hr w).mono fun e w' ⟨he, hb⟩ => ⟨⟨_, he, rfl⟩, hb⟩
    · rw [Bool.and_eq_true] at hr
      obtain ⟨h1, h2⟩ := hr
      obtain ⟨K, hK, rfl, rfl, rfl, rfl, rfl, rfl⟩ := Cf.of_right h1
      obtain ⟨h3, h4⟩ := be_iff.1 h2
      obtain ⟨j, rfl⟩ := Int.eq_ofNat_of_zero_le h3
      exact (newLeave_yes hK j (by omega) w).mono fun e w' ⟨P, he, _, _, hb⟩ => ⟨⟨_, he, rfl⟩, hb⟩
  exact none_as w c1 c2 c3 rfl rfl
end Go.Proofs.Ytpfcpkkillklkaa
