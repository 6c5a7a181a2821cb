/- The ways through the law MemOwn. -/
import Derived.Test.YteeocnknocoefabOpen
namespace Go.Proofs.Yteeocnknocoefab
open Go.RowKit

theorem touched_len (s : MS) (kd : Int) (i v : Nat) : (touched s kd i v).X.length = s.X.length := by simp [touched]
theorem act_len (s : MS) (kd a : Int) (A B : Nat) : (actS s kd a A B).1.X.length = s.X.length := by
  unfold actS
  repeat' split
  all_goals simp [touched_len]
theorem act_t (s : MS) (kd a : Int) (A B : Nat) : s.t ≤ (actS s kd a A B).1.t ∧ (actS s kd a A B).1.t ≤ s.t + 1 := by
  unfold actS
  repeat' split
  all_goals simp [touched]
  all_goals omega

/-- A memory of n words that was touched t times at most. -/
def Small (w : World) (M G n t : Nat) : Prop := ∃ s : MS, IsMem w M G s ∧ s.X.length = n ∧ 0 ≤ s.t ∧ s.t ≤ (t : Int)

theorem small_does {w : World} {M G n t : Nat} (h : Small w M G n t) (kd a : Int) (A B : Nat) (hA : A < 18446744073709551616) (hB : B < 18446744073709551616) (ht : t < 100000) :
    Calls Try.prog 10 #[.pointer (some ⟨M, 0, none⟩), .agg #[.int .i64 kd, .int .i64 a, .int .u64 A, .int .u64 B]] w fun e w' => (∃ x y, e = .returned (.tuple #[.int .u64 (x : Nat), .bool y])) ∧ Small w' M G n (t + 1) ∧ Only M G w w' := by
  obtain ⟨s, hm, hX, h1, h2⟩ := h
  refine (does_any hm kd a A B hA hB (by omega)).mono fun _ _ ⟨h3, h4, h5⟩ => ⟨⟨_, _, h3⟩, ⟨_, h4, (act_len _ _ _ _ _).trans hX, ?_, ?_⟩, h5⟩
  · have := act_t s kd a A B; omega
  · have := act_t s kd a A B; omega

set_option maxHeartbeats 1000000 in
theorem own_long (ad : Option Addr) (len cap : Nat) (h : 300 < len) (w : World) :
    Calls Try.prog 7 #[.slice ad len cap] w fun e w' => e = .returned (.bool true) ∧ Below w.heap.size w w' := by
  go_enter Try.func7, Try.ntmps7
  go_wp2_with (go_at_call 8; refine (awake_any _).mono ?_; rintro e w' ⟨rfl, hb⟩)
  go_ret
  exact ⟨rfl, hb⟩

theorem new_small (n : Nat) (hn : n ≤ 65536) (w : World) : Calls Try.prog 9 #[.int .i64 n] w fun e w' => ∃ M G, e = .returned (.pointer (some ⟨M, 0, none⟩)) ∧ Small w' M G n 0 ∧ w.heap.size ≤ M ∧ w.heap.size ≤ G ∧ Below w.heap.size w w' :=
  (new_any n hn w).mono fun _ _ ⟨M, G, h1, h2, h3, h4, h5⟩ => ⟨M, G, h1, ⟨_, h2, by simp [zeroMS], Int.le_refl _, Int.le_refl _⟩, h3, h4, h5⟩
theorem Small.below {w w' : World} {M G n t : Nat} (h : Small w M G n t) (hb : Below w.heap.size w w') : Small w' M G n t := by
  obtain ⟨s, hm, hX, hT⟩ := h
  exact ⟨s, hm.below hb, hX, hT⟩

theorem words_n {M G n : Nat} {s : MS} {w : World} (h : IsMem w M G s) (hn : s.X.length = n) (hl : n ≤ 65536) :
    Calls Try.prog 14 #[.pointer (some ⟨M, 0, none⟩)] w fun e w' => ∃ R, e = .returned (.slice (some ⟨R, 0, none⟩) n n) ∧ IsWords w' R s.X ∧ w.heap.size ≤ R ∧ Below w.heap.size w w' := by
  subst hn; exact words_any h hl
theorem words_z {M G n : Nat} {X : List Nat} {w : World} (h : IsMem w M G (zeroMS X)) (hn : X.length = n) (hl : n ≤ 65536) :
    Calls Try.prog 14 #[.pointer (some ⟨M, 0, none⟩)] w fun e w' => ∃ R, e = .returned (.slice (some ⟨R, 0, none⟩) n n) ∧ IsWords w' R X ∧ w.heap.size ≤ R ∧ Below w.heap.size w w' := words_n h hn hl
theorem touches_z {M G : Nat} {X : List Nat} {w : World} (h : IsMem w M G (zeroMS X)) : Calls Try.prog 11 #[.pointer (some ⟨M, 0, none⟩)] w fun e w' => e = .returned (.int .i64 0) ∧ w = w' := touches_any h
theorem of_n {R n : Nat} {X : List Nat} {w : World} (h : IsWords w R X) (hX : ∀ x ∈ X, x < 18446744073709551616) (hn : X.length = n) (hl : n ≤ 65536) :
    Calls Try.prog 20 #[.slice (some ⟨R, 0, none⟩) n n] w fun e w' => ∃ M G, e = .returned (.pointer (some ⟨M, 0, none⟩)) ∧ IsMem w' M G (zeroMS X) ∧ w.heap.size ≤ M ∧ w.heap.size ≤ G ∧ Below w.heap.size w w' := by
  subst hn; exact of_any h hX hl
theorem same_n {R S n : Nat} {X : List Nat} {w : World} (h1 : IsWords w R X) (h2 : IsWords w S X) (hn : X.length = n) (hl : n ≤ 65536) :
    Calls Try.prog 13 #[.slice (some ⟨R, 0, none⟩) n n, .slice (some ⟨S, 0, none⟩) n n] w fun e w' => e = .returned (.bool true) ∧ Below w.heap.size w w' := by
  subst hn; exact (same_yes h1 h2 hl).mono fun _ _ ⟨h3, m, h4⟩ => ⟨h3, by rw [h4]; exact below_drewN (Below.refl _ _) _⟩
theorem IsWords.below {w w' : World} {R : Nat} {X : List Nat} (h : IsWords w R X) (hb : Below w.heap.size w w') : IsWords w' R X := by
  show w'.heap[R]? = _
  rw [hb.block R (lt_of_block (show w.heap[R]? = _ from h))]
  exact h

theorem IsWords.other {w w' : World} {R M G : Nat} {X : List Nat} (h : IsWords w R X) (ho : Only M G w w') (h1 : R ≠ M) (h2 : R ≠ G) : IsWords w' R X := by
  show w'.heap[R]? = _
  rw [ho.block R (lt_of_block (show w.heap[R]? = _ from h)) h1 h2]
  exact h
theorem words_free {w : World} {R : Nat} {X : List Nat} (h : IsWords w R X) (i : Nat) : w.frozen? ⟨R, i, none⟩ = false := by
  simp [World.frozen?, show w.heap[R]? = _ from h]
theorem words_set {w : World} {R : Nat} {X : List Nat} (h : IsWords w R X) (i v : Nat) : IsWords (w.setCell ⟨R, i, none⟩ (.int .u64 (v : Nat))) R (X.set i v) := by
  show (w.setCell ⟨R, i, none⟩ (.int .u64 (v : Nat))).heap[R]? = _
  rw [heap_setCell_at (show w.heap[R]? = _ from h)]
  simp [wordsOf, List.map_set]

set_option maxHeartbeats 2000000 in
theorem own_short {w : World} {ad : Option Addr} {len : Nat} (h : IsActs w ad len) (cap : Nat) (hl : len ≤ 300) :
    Calls Try.prog 7 #[.slice ad len cap] w fun e w' => e = .returned (.bool true) ∧ Below w.heap.size w w' := by
  go_enter Try.func7, Try.ntmps7
  go_wp2_with (first
    | (go_at_call 8; refine (awake_any _).mono ?_; rintro e w1 ⟨rfl, hb1⟩)
    | (go_at_call 9; refine (new_small 20 (by omega) w1).mono ?_; rintro e w2 ⟨M, G, rfl, hm, hM, hG, hb2⟩))
  have b12 := hb1.trans (hb2.mono hb1.size)
  have s1 := hb1.size
  have D : Hid (w.heap.size ≤ M ∧ w.heap.size ≤ G) := ⟨by omega, by omega⟩
  clear hb1 hb2 hM hG s1
  go_loopw [4] (fun i wr => ∃ k : Nat, k ≤ len ∧ i = .int .i64 k ∧ Small wr M G 20 k ∧ Below w.heap.size w wr) (fun i _ => len - (intOf i).toNat)
  case atStart => exact ⟨0, Nat.zero_le _, rfl, hm, b12⟩
  case round =>
    obtain ⟨k, hk, rfl, hsm, hbel⟩ := hrel
    clear hm b12
    by_cases hkl : k < len
    · rcases h with h0 | ⟨b, off, K, A, P, Q, rfl, h⟩
      · omega
      have H := h.below hbel
      have g0 := H.k k hkl
      have g1 := H.a k hkl
      have g2 := H.p k hkl
      have g3 := H.q k hkl
      have c := small_does hsm (K k) (A k) (P k) (Q k) (H.bp k hkl) (H.bq k hkl) (by omega)
      generalize K k = kd at *
      generalize A k = a at *
      generalize P k = p at *
      generalize Q k = q at *
      clear h H hsm
      go_wp2_with (go_at_call 10; refine c.mono ?_; rintro e w3 ⟨⟨x, y, rfl⟩, hsm', ho⟩)
      go_roundw
      case rel => exact ⟨k + 1, by omega, by go_num, hsm', ho.below hbel D.out.1 D.out.2 (Nat.le_refl _)⟩
      case measure => simp [intOf]; omega
    · have hkn : k = len := by omega
      subst hkn
      clear h
      obtain ⟨s, hm, hX, hT⟩ := hsm
      have HX : Hid (s.X.length = 20) := hX
      clear hX hT
      go_wp2_with (first
        | (go_at_call 14; with_reducible refine (words_n hm HX.out (by omega)).mono ?_; rintro e w3 ⟨R1, rfl, r1, hR1, b3⟩)
        | (go_at_call 20; with_reducible refine (of_n r1 hm.fits HX.out (by omega)).mono ?_; rintro e w4 ⟨M2, G2, rfl, hm2, hM2, hG2, b4⟩; have b34 := b3.trans (b4.mono b3.size); have hm4 := hm.below b34)
        | (go_at_call 14; with_reducible refine (words_n hm4 HX.out (by omega)).mono ?_; rintro e w5 ⟨R2, rfl, r2, hR2, b5⟩; have hm5 := hm4.below b5)
        | (go_at_call 14; with_reducible refine (words_n hm5 HX.out (by omega)).mono ?_; rintro e w6 ⟨R3, rfl, r3, hR3, b6⟩; have b56 := b5.trans (b6.mono b5.size); have hm26 := hm2.below b56)
        | (go_at_call 14; with_reducible refine (words_z hm26 HX.out (by omega)).mono ?_; rintro e w7 ⟨R4, rfl, r4, hR4, b7⟩; have r37 := r3.below b7)
        | (go_at_call 13; with_reducible refine (same_n r4 r37 HX.out (by omega)).mono ?_; rintro e w8 ⟨rfl, b8⟩; have b68 := b7.trans (b8.mono b7.size); have hm28 := hm26.below b68)
        | (go_at_call 11; with_reducible refine (touches_z hm28).mono ?_; rintro e w9 ⟨rfl, rfl⟩))
      have s4 := b34.size
      have s5 := b5.size
      have s6 := b6.size
      have b58 := b6.trans (b68.mono b6.size)
      have b48 := b5.trans (b58.mono b5.size)
      have br8 := b34.trans (b48.mono b34.size)
      have hm8 : IsMem w8 M G s := hm.below br8
      have q2 : IsWords w8 R2 s.X := r2.below b58
      have q3 : IsWords w8 R3 s.X := r3.below b68
      have hbel8 := hbel.trans (br8.mono hbel.size)
      have lM := hm.M_lt
      have lG := hm.G_lt
      have sw := hbel.size
      have l2 : R2 < w5.heap.size := lt_of_block (show w5.heap[R2]? = _ from r2)
      have E : Hid (R2 ≠ M ∧ R2 ≠ G ∧ R2 ≠ R3 ∧ w.heap.size ≤ R2) := ⟨by omega, by omega, by omega, by omega⟩
      clear hm hm2 hm4 hm5 hm26 hm28 r1 r2 r3 r4 r37 b3 b4 b34 b5 b6 b56 b7 b8 b68 b58 b48 br8 hR1 hR2 hR3 hR4 hM2 hG2 s4 s5 s6 lM lG sw l2 hbel
      go_loopw [8] (fun i wr => ∃ j : Nat, j ≤ 20 ∧ i = .int .i64 j ∧ Only R2 R2 w8 wr ∧ ∃ X', X'.length = 20 ∧ IsWords wr R2 X') (fun i _ => 20 - (intOf i).toNat)
      case atStart => exact ⟨0, Nat.zero_le _, rfl, Only.refl _ _ _, s.X, HX.out, q2⟩
      case round =>
        obtain ⟨j, hj, rfl, ho, X', hX', hw⟩ := hrel
        have HX' : Hid (X'.length = 20) := hX'
        clear hX'
        by_cases hjl : j < 20
        · have g0 := words_at hw j (by rw [HX'.out]; exact hjl)
          have f0 : wr.frozen? ⟨R2, j, none⟩ = false := words_free hw j
          have e0 := sumW_eq (X'.getD j 0) 1
          have hset := words_set hw j (sumW (X'.getD j 0) 1)
          have hlen : Hid ((X'.set j (sumW (X'.getD j 0) 1)).length = 20) := by show _ = _; rw [List.length_set]; exact HX'.out
          have HW : Hid (IsWords (wr.setCell ⟨R2, j, none⟩ (.int .u64 (sumW (X'.getD j 0) 1 : Nat))) R2 (X'.set j (sumW (X'.getD j 0) 1))) := hset
          clear hset hw q2 q3 hm8
          generalize hv : X'.getD j 0 = v at *
          clear hv
          go_wp2
          go_roundw
          case rel => exact ⟨j + 1, by omega, by go_num, ho.setCell (.inl rfl) _, _, hlen.out, HW.out⟩
          case measure => simp [intOf]; omega
        · have hjn : j = 20 := by omega
          subst hjn
          have e := E.out
          have hmr : IsMem wr M G s := hm8.other ho (Ne.symm e.1) (Ne.symm e.1) (Ne.symm e.2.1) (Ne.symm e.2.1)
          have q3r : IsWords wr R3 s.X := q3.other ho (Ne.symm e.2.2.1) (Ne.symm e.2.2.1)
          have hbr : Below w.heap.size w wr := ho.below hbel8 e.2.2.2 e.2.2.2 (Nat.le_refl _)
          clear q2 q3 hm8 hw e ho hbel8
          go_wp2_with (first
            | (go_at_call 14; with_reducible refine (words_n hmr HX.out (by omega)).mono ?_; rintro e w9 ⟨R5, rfl, r5, hR5, b9⟩; have r39 := q3r.below b9)
            | (go_at_call 13; with_reducible refine (same_n r5 r39 HX.out (by omega)).mono ?_; rintro e w10 ⟨rfl, b10⟩)
            | (go_at_call 8; refine (awake_any _).mono ?_; rintro e w11 ⟨rfl, b11⟩))
          go_ret
          have c9 := hbr.trans (b9.mono hbr.size)
          have c10 := c9.trans (b10.mono c9.size)
          exact ⟨rfl, c10.trans (b11.mono c10.size)⟩
end Go.Proofs.Yteeocnknocoefab
