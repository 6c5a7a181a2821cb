/- ModelCopies: the law. -/
import Derived.Test.YtcccmmhpingmnaaWB
namespace Go.Proofs.Ytcccmmhpingmnaa
open Go.RowKit
set_option linter.unusedSimpArgs false
set_option linter.unusedVariables false

set_option maxRecDepth 100000 in
set_option maxHeartbeats 16000000 in
theorem copies_law {w : World} {ad1 ad2 ad3 : Option Addr} {A1 A2 A3 : List At} (cap1 cap2 cap3 : Nat) (h1 : RdAt w ad1 A1) (h2 : RdAt w ad2 A2) (h3 : RdAt w ad3 A3) :
    Calls Try.prog 7 #[.slice ad1 A1.length cap1, .slice ad2 A2.length cap2, .slice ad3 A3.length cap3] w fun r w' => r = .returned (.bool true) ∧ Below w.heap.size w w' := by
  have cN : ∀ w0 : World, Calls Try.prog 9 #[.agg (cs 4 2 2 3 9 0)] w0 fun r w' => ∃ B, r = .returned (.pointer (some ⟨B, 0, none⟩)) ∧ Below w0.heap.size w0 w' ∧ IsM w' B (Lb w0.heap.size w') K17 0 (sx0 2) := new_yes K17 K17_right
  have ha : K17.a ≤ 8 := by decide
  obtain ⟨l1, hl1⟩ : ∃ l, A1.length = l := ⟨_, rfl⟩
  obtain ⟨l2, hl2⟩ : ∃ l, A2.length = l := ⟨_, rfl⟩
  obtain ⟨l3, hl3⟩ : ∃ l, A3.length = l := ⟨_, rfl⟩
  rw [hl1, hl2, hl3]
  replace hl1 := hid1 hl1
  replace hl2 := hid1 hl2
  replace hl3 := hid1 hl3
  replace h1 := hid1 h1
  replace h2 := hid1 h2
  replace h3 := hid1 h3
  go_enter Try.func7, Try.ntmps7
  go_upto_region 2 with (first
    | (go_at_call 10; have _q := bc; clear _q; with_reducible refine (config_any _).mono ?_; rintro r wd ⟨rfl, bd⟩)
    | (go_at_call 10; with_reducible refine (config_any _).mono ?_; rintro r wc ⟨rfl, bc⟩)
    | (go_at_call 9; have _q := m0; clear _q; with_reducible refine (cN _).mono ?_; rintro r w1 ⟨Bb, rfl, b1, m1⟩)
    | (go_at_call 9; with_reducible refine (cN _).mono ?_; rintro r w0 ⟨Ba, rfl, b0, m0⟩))
  have B1 : Below w.heap.size w w1 := seq_below (seq_below (seq_below bc b0) bd) b1
  have T1 : Two w.heap.size w1 K17 Ba Bb 0 0 (sx0 2) (sx0 2) := ⟨Lb wc.heap.size w0, Lb wd.heap.size w1, m0.below (seq_below bd b1), m1, fun i hi hj => by
      have := hi.2; have := hj.1; have := bd.size; omega, fun i hi => ⟨Nat.le_trans bc.size hi.1, by have := hi.2; have := bd.size; have := b1.size; omega⟩, fun i hi => ⟨by have := hi.1; have := bd.size; have := b0.size; have := bc.size; omega, hi.2⟩⟩
  clear cN m0 m1 bc b0 bd b1
  replace B1 := hid1 B1
  replace T1 := hid1 T1
  by_cases p1 : (80 : Int) < (l1 : Int)
  · go_wp2_with (go_at_call 11; with_reducible refine (awake_any _).mono ?_; rintro r w2 ⟨rfl, b2⟩)
    go_ret
    exact ⟨rfl, seq_below B1.out b2⟩
  by_cases p2 : (80 : Int) < (l2 : Int)
  · go_wp2_with (go_at_call 11; with_reducible refine (awake_any _).mono ?_; rintro r w2 ⟨rfl, b2⟩)
    go_ret
    exact ⟨rfl, seq_below B1.out b2⟩
  by_cases p3 : (80 : Int) < (l3 : Int)
  · go_wp2_with (go_at_call 11; with_reducible refine (awake_any _).mono ?_; rintro r w2 ⟨rfl, b2⟩)
    go_ret
    exact ⟨rfl, seq_below B1.out b2⟩
  go_upto_region 4 with (go_at_call 11; with_reducible refine (awake_any _).mono ?_; rintro r w2 ⟨rfl, b2⟩)
  have q1 : l1 ≤ 80 := by omega
  have q2 : l2 ≤ 80 := by omega
  have q3 : l3 ≤ 80 := by omega
  clear p1 p2 p3
  have T2 := T1.out.below b2
  have B2 := seq_below B1.out b2
  clear b2 T1 B1
  have c4 := two_plays T2 B2 (sx0_inv 2) (A := A1) (by rw [hl1.out]; omega) (by rw [hl1.out]; omega) ha cap1 h1.out
  simp only [hl1.out] at c4
  obtain ⟨P, hP⟩ : ∃ P, playsF K17 A1 0 (sx0 2) ⟨#[]⟩ = P := ⟨_, rfl⟩
  rw [hP] at c4
  replace c4 := hid1 c4
  clear T2 B2
  go_upto_region 5 with (go_at_call 24; with_reducible refine c4.out.mono ?_; rintro r w4 ⟨rfl, T4, iv4, B4⟩)
  have c5 := two_plays T4.swap B4 (sx0_inv 2) (A := A1) (by rw [hl1.out]; omega) (by rw [hl1.out]; omega) ha cap1 h1.out
  simp only [hl1.out] at c5
  rw [hP] at c5
  replace c5 := hid1 c5
  replace hP := hid1 hP
  clear c4 T4 B4
  go_upto_region 6 with (go_at_call 24; with_reducible refine c5.out.mono ?_; rintro r w5 ⟨rfl, T5, iv5, B5⟩)
  clear c5
  replace T5 := T5.swap
  obtain ⟨La, Lb', m1, m2, h6, h4, h5⟩ := T5
  obtain ⟨md, m1'⟩ := m1
  have c6 := copy_any m1' iv4 (by omega) (by decide) (by decide)
  replace c6 := hid1 c6
  replace m1 : IsM w5 Ba La K17 _ _ := ⟨md, m1'⟩
  clear m1' iv5
  go_upto_region 9 with (go_at_call 19; with_reducible refine c6.out.mono ?_; rintro r w6 ⟨Bk, rfl, hBk, mk, b6⟩)
  have B6 := seq_below B5 b6
  have c9 := third_plays (w0 := w) (w := w6) (q := w5.heap.size) ⟨La, Lb', m1.below b6, m2.below b6, h6, fun i hi => ⟨(h4 i hi).1, Nat.lt_of_lt_of_le (h4 i hi).2 b6.size⟩, fun i hi => ⟨(h5 i hi).1, Nat.lt_of_lt_of_le (h5 i hi).2 b6.size⟩⟩ mk B5.size (fun i hi => hi) ⟨La, Lb', m1.below b6, m2.below b6, h6, h4, h5, b6.size⟩ B6 iv4 (A := A3) (by rw [hl3.out]; omega) (by rw [hl3.out]; omega) ha cap3 h3.out
  simp only [hl3.out] at c9
  replace c9 := hid1 c9
  clear c6 m1 m2 h6 h4 h5 mk b6 B5 B6 hBk
  go_upto_region 10 with (go_at_call 24; with_reducible refine c9.out.mono ?_; rintro r w9 ⟨⟨s9, rfl⟩, T9, B9⟩)
  have cx := two_plays T9 B9 iv4 (A := A2) (by rw [hl2.out]; omega) (by rw [hl2.out]; omega) ha cap2 h2.out
  simp only [hl2.out] at cx
  obtain ⟨R, hR⟩ : ∃ R, playsF K17 A2 0 P.1 ⟨#[]⟩ = R := ⟨_, rfl⟩
  rw [hR] at cx
  have cy : ∀ (w' : World) (Xa : Sx) (na : Nat), Two w.heap.size w' K17 Ba Bb na (0 + 2 * l1) Xa P.1 → Below w.heap.size w w' → Calls Try.prog 24 #[.pointer (some ⟨Bb, 0, none⟩), .slice ad2 l2 cap2] w' fun r w'' => r = .returned (.string R.2) ∧ Below w.heap.size w w'' := fun w' Xa na T B => by
    have c := two_plays T.swap B iv4 (A := A2) (by rw [hl2.out]; omega) (by rw [hl2.out]; omega) ha cap2 h2.out
    rw [hl2.out, hR] at c
    exact c.mono fun r w'' ⟨h1, _, _, h4⟩ => ⟨h1, h4⟩
  replace cx := hid1 cx
  replace cy := hid1 cy
  clear c9 T9 B9 hR
  go_upto_region 12 with (first
    | (go_at_call 24; with_reducible refine cx.out.mono ?_; rintro r wx ⟨rfl, Tx, ivx, Bx⟩)
    | (go_at_call 24; with_reducible refine (cy.out _ _ _ Tx Bx).mono ?_; rintro r wy ⟨rfl, By⟩))
  clear cx cy Tx ivx Bx
  have cNo : ∀ w0 : World, Calls Try.prog 23 #[.pointer none, .int .i64 0, .int .u64 1] w0 fun r w' => r = .returned (.int .i64 (-1)) ∧ w0 = w' := fun w0 => mnode_nil 0 1 w0
  go_wp2_with (first
    | (go_at_call 19; with_reducible refine (copy_nil _).mono ?_; rintro r wz ⟨rfl, rfl⟩)
    | (go_at_call 16; with_reducible refine (does_nil 0 1 0 0 0 0 0 1 false _).mono ?_; rintro r wz ⟨rfl, bz⟩)
    | (go_at_call 22; with_reducible refine (mheld_nil 0 _).mono ?_; rintro r wq ⟨rfl, rfl⟩)
    | (go_at_call 23; with_reducible refine (cNo _).mono ?_; rintro r wq ⟨rfl, rfl⟩)
    | (go_at_call 25; with_reducible refine (mfield_nil 0 0 _).mono ?_; rintro r wq ⟨rfl, rfl⟩))
  go_ret
  exact ⟨rfl, seq_below By bz⟩
end Go.Proofs.Ytcccmmhpingmnaa
