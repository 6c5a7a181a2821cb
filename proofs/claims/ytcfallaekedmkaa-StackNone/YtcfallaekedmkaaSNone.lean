/- The law of no machine, walked. -/
import Derived.Test.YtcfallaekedmkaaSAwake
namespace Go.Proofs.Ytcfallaekedmkaa
open Go.RowKit

set_option maxHeartbeats 2000000 in
theorem none_as {s a c d g k i : Int} {r t : Bool} (w : World)
    (c1 : ∀ w, Calls Try.prog 20 #[.agg (cs s a c d g k)] w fun e w' => (∃ b, e = .returned (.pointer b) ∧ b.isSome = r) ∧ Below w.heap.size w w')
    (c2 : ∀ w, Calls Try.prog 23 #[.agg (cs s a c d g k), .int .i64 i] w fun e w' => (∃ b, e = .returned (.pointer b) ∧ b.isSome = t) ∧ Below w.heap.size w w')
    (hr : rightB s a c d g k = r) (ht : (r && be i s) = t) :
    Calls Try.prog 7 #[.agg (cs s a c d g k), .int .i64 i] w fun e w' => e = .returned (.bool true) ∧ Below w.heap.size w w' := by
  have c3 := rright_any s a c d g k
  rw [hr] at c3
  have c4 := awake_any
  have bel := alloc_below w (.cells #[.int .i64 s, .int .i64 a, .int .i64 c, .int .i64 d, .int .i64 g, .int .i64 k] 23)
  have hh := cfg_new w s a c d g k
  go_enter Try.func7, Try.ntmps7
  go_upto_region 1 with fail
  generalize w.alloc (.cells #[.int .i64 s, .int .i64 a, .int .i64 c, .int .i64 d, .int .i64 g, .int .i64 k] 23) = w0 at *
  replace hh := hh.below (Below.refl w0.heap.size w0).drew
  replace bel := bel.drew
  go_region_held (fun wr => wr.cell? ⟨w.heap.size, 0, none⟩ = some (.int .i64 s) ∧ wr.cell? ⟨w.heap.size, 1, none⟩ = some (.int .i64 a) ∧ wr.cell? ⟨w.heap.size, 2, none⟩ = some (.int .i64 c) ∧ wr.cell? ⟨w.heap.size, 3, none⟩ = some (.int .i64 d) ∧ wr.cell? ⟨w.heap.size, 4, none⟩ = some (.int .i64 g) ∧ wr.cell? ⟨w.heap.size, 5, none⟩ = some (.int .i64 k)) (with_reducible exact hh.cells) (first
    | (go_at_call 20; with_reducible refine (c1 _).mono ?_; rintro e w3 ⟨⟨P, rfl, hP⟩, hb⟩; replace bel := seq_below bel hb; replace hh := hh.below hb)
    | (go_at_call 23; with_reducible refine (c2 _).mono ?_; rintro e w4 ⟨⟨Q, rfl, hQ⟩, hb⟩; replace bel := seq_below bel hb; replace hh := hh.below hb))
  obtain ⟨l0, l1, l2, l3, l4, l5⟩ := hh.cells
  have h21 := step_nil (.pointer none)
  have h24 := pstep_nil (.pointer none)
  clear c1 c2
  cases r
  · obtain rfl : t = false := by rw [← ht]; rfl
    obtain rfl : P = none := by simpa using hP
    obtain rfl : Q = none := by simpa using hQ
    clear hP hQ ht hr
    go_wp2_with (first
      | (go_at_call 16; refine (c3 _).mono ?_; rintro e w5 ⟨rfl, hb⟩; replace bel := seq_below bel hb; replace hh := hh.below hb; clear l0 l1 l2 l3 l4 l5; obtain ⟨l0, l1, l2, l3, l4, l5⟩ := hh.cells)
      | (go_at_call 21; refine (h21 _).mono ?_; rintro e w5 ⟨rfl, rfl⟩)
      | (go_at_call 24; refine (h24 _).mono ?_; rintro e w5 ⟨rfl, rfl⟩)
      | (go_at_call 11; refine (c4 _).mono ?_; rintro e w5 ⟨rfl, hb⟩; replace bel := seq_below bel hb))
    go_ret
    exact ⟨rfl, bel⟩
  · obtain ⟨P', rfl⟩ := Option.isSome_iff_exists.1 hP
    rw [Bool.true_and] at ht
    cases t
    · obtain rfl : Q = none := by simpa using hQ
      have hno : ¬ (0 ≤ i ∧ i < s) := fun h => by rw [be_iff.2 h] at ht; cases ht
      clear hP hQ ht hr
      by_cases h0 : 0 ≤ i
      · have h1 : s ≤ i := by omega
        have hd : decide (i < s) = false := decide_eq_false (by omega)
        clear hno
        go_wp2_with (first
          | (go_at_call 16; refine (c3 _).mono ?_; rintro e w5 ⟨rfl, hb⟩; replace bel := seq_below bel hb; replace hh := hh.below hb; clear l0 l1 l2 l3 l4 l5; obtain ⟨l0, l1, l2, l3, l4, l5⟩ := hh.cells)
          | (go_at_call 21; refine (h21 _).mono ?_; rintro e w5 ⟨rfl, rfl⟩)
          | (go_at_call 24; refine (h24 _).mono ?_; rintro e w5 ⟨rfl, rfl⟩)
          | (go_at_call 11; refine (c4 _).mono ?_; rintro e w5 ⟨rfl, hb⟩; replace bel := seq_below bel hb))
        go_ret
        exact ⟨rfl, bel⟩
      · have h1 : i < 0 := by omega
        clear hno h0
        go_wp2_with (first
          | (go_at_call 16; refine (c3 _).mono ?_; rintro e w5 ⟨rfl, hb⟩; replace bel := seq_below bel hb; replace hh := hh.below hb; clear l0 l1 l2 l3 l4 l5; obtain ⟨l0, l1, l2, l3, l4, l5⟩ := hh.cells)
          | (go_at_call 21; refine (h21 _).mono ?_; rintro e w5 ⟨rfl, rfl⟩)
          | (go_at_call 24; refine (h24 _).mono ?_; rintro e w5 ⟨rfl, rfl⟩)
          | (go_at_call 11; refine (c4 _).mono ?_; rintro e w5 ⟨rfl, hb⟩; replace bel := seq_below bel hb))
        go_ret
        exact ⟨rfl, bel⟩
    · obtain ⟨Q', rfl⟩ := Option.isSome_iff_exists.1 hQ
      obtain ⟨h0, h1⟩ := be_iff.1 ht
      clear hP hQ ht hr
      go_wp2_with (first
        | (go_at_call 16; refine (c3 _).mono ?_; rintro e w5 ⟨rfl, hb⟩; replace bel := seq_below bel hb; replace hh := hh.below hb; clear l0 l1 l2 l3 l4 l5; obtain ⟨l0, l1, l2, l3, l4, l5⟩ := hh.cells)
        | (go_at_call 21; refine (h21 _).mono ?_; rintro e w5 ⟨rfl, rfl⟩)
        | (go_at_call 24; refine (h24 _).mono ?_; rintro e w5 ⟨rfl, rfl⟩)
        | (go_at_call 11; refine (c4 _).mono ?_; rintro e w5 ⟨rfl, hb⟩; replace bel := seq_below bel hb))
      go_ret
      exact ⟨rfl, bel⟩

theorem none_law (s a c d g k i : Int) (w : World) : Calls Try.prog 7 #[.agg (cs s a c d g k), .int .i64 i] w fun e w' => e = .returned (.bool true) ∧ Below w.heap.size w w' := by
  have c1 : ∀ w, Calls Try.prog 20 #[.agg (cs s a c d g k)] w fun e w' => (∃ b, e = .returned (.pointer b) ∧ b.isSome = rightB s a c d g k) ∧ Below w.heap.size w w' := fun w => by
    cases hr : rightB s a c d g k
    · exact (newPop_no hr w).mono fun e w' ⟨he, hb⟩ => ⟨⟨_, he, rfl⟩, hb⟩
    · exact (newPop_yes hr w).mono fun e w' ⟨P, he, _, _, hb⟩ => ⟨⟨_, he, rfl⟩, hb⟩
  have c2 : ∀ w, Calls Try.prog 23 #[.agg (cs s a c d g k), .int .i64 i] w fun e w' => (∃ b, e = .returned (.pointer b) ∧ b.isSome = (rightB s a c d g k && be i s)) ∧ Below w.heap.size w w' := fun w => by
    cases hr : rightB s a c d g k && be i s
    · exact (newPush_no i hr w).mono fun e w' ⟨he, hb⟩ => ⟨⟨_, he, rfl⟩, hb⟩
    · rw [Bool.and_eq_true] at hr
      obtain ⟨h1, h2⟩ := hr
      obtain ⟨K, hK, rfl, rfl, rfl, rfl, rfl, rfl⟩ := Cf.of_right h1
      obtain ⟨h3, h4⟩ := be_iff.1 h2
      obtain ⟨j, rfl⟩ := Int.eq_ofNat_of_zero_le h3
      exact (newPush_yes hK j (by omega) w).mono fun e w' ⟨P, he, _, _, hb⟩ => ⟨⟨_, he, rfl⟩, hb⟩
  exact none_as w c1 c2 rfl rfl
end Go.Proofs.Ytcfallaekedmkaa
