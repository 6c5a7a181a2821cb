/- The ways through the law MemCopies. -/
import Derived.Test.YteeocnknocoefabOwnWalk
namespace Go.Proofs.Yteeocnknocoefab
open Go.RowKit

theorem does_s {w : World} {M G : Nat} {s s' : MS} {x : Nat} {y : Bool} (h : IsMem w M G s) (kd a : Int) (A B : Nat) (hA : A < 18446744073709551616) (hB : B < 18446744073709551616) (ht : 0 ≤ s.t ∧ s.t < 4611686018427387904) (hs : actS s kd a A B = (s', x, y)) :
    Calls Try.prog 10 #[.pointer (some ⟨M, 0, none⟩), .agg #[.int .i64 kd, .int .i64 a, .int .u64 A, .int .u64 B]] w fun e w' => e = .returned (.tuple #[.int .u64 (x : Nat), .bool y]) ∧ IsMem w' M G s' ∧ Only M G w w' := by
  have c := does_any h kd a A B hA hB ht
  rw [hs] at c
  exact c

/-- What is known of a memory's state behind at most t acts. -/
structure St (s : MS) (n t : Nat) : Prop where
  len : s.X.length = n
  t0 : 0 ≤ s.t
  t1 : s.t ≤ (t : Int)

theorem St.act {s s' : MS} {n t x : Nat} {y : Bool} {kd a : Int} {A B : Nat} (h : St s n t) (hs : actS s kd a A B = (s', x, y)) : St s' n (t + 1) := by
  have h1 := act_len s kd a A B
  have h2 := act_t s kd a A B
  rw [hs] at h1 h2
  simp only at h1 h2
  have := h.len
  have := h.t0
  have := h.t1
  exact ⟨by omega, by omega, by omega⟩

theorem Acts.only {w w' : World} {b off len M G : Nat} {K A : Nat → Int} {P Q : Nat → Nat} (h : Acts w b off len K A P Q) (ho : Only M G w w') (h1 : b ≠ M) (h2 : b ≠ G) : Acts w' b off len K A P Q :=
  ⟨Nat.lt_of_lt_of_le h.lt ho.size, fun i hi => (ho.cell (x := ⟨b, _, none⟩) h.lt h1 h2).trans (h.k i hi), fun i hi => (ho.cell (x := ⟨b, _, none⟩) h.lt h1 h2).trans (h.a i hi), fun i hi => (ho.cell (x := ⟨b, _, none⟩) h.lt h1 h2).trans (h.p i hi), fun i hi => (ho.cell (x := ⟨b, _, none⟩) h.lt h1 h2).trans (h.q i hi), h.bp, h.bq⟩

set_option maxHeartbeats 1000000 in
theorem copies_long (n : Nat) (a1 a2 a3 : Option Addr) (l1 c1 l2 c2 l3 c3 : Nat) (h : 300 < l1 ∨ (l1 ≤ 300 ∧ 300 < l2) ∨ (l1 ≤ 300 ∧ l2 ≤ 300 ∧ 300 < l3)) (w : World) :
    Calls Try.prog 4 #[.int .u8 n, .slice a1 l1 c1, .slice a2 l2 c2, .slice a3 l3 c3] w fun e w' => e = .returned (.bool true) ∧ Below w.heap.size w w' := by
  rcases h with h | ⟨h, h'⟩ | ⟨h, h', h''⟩
  all_goals
    go_enter Try.func4, Try.ntmps4
    go_wp2_with (go_at_call 8; refine (awake_any _).mono ?_; rintro e w' ⟨rfl, hb⟩)
    go_ret
    exact ⟨rfl, hb⟩

theorem last_s {M G : Nat} {s : MS} {w : World} {k a p q : Int} (h : IsMem w M G s) (hs : s.k = k ∧ s.a = a ∧ s.p = p ∧ s.q = q) : Calls Try.prog 12 #[.pointer (some ⟨M, 0, none⟩)] w fun e w' => e = .returned (.agg #[.int .i64 k, .int .i64 a, .int .u64 p, .int .u64 q]) ∧ Below w.heap.size w w' := by
  obtain ⟨rfl, rfl, rfl, rfl⟩ := hs
  exact last_any h
theorem touches_s {M G : Nat} {s : MS} {w : World} {t : Int} (h : IsMem w M G s) (ht : s.t = t) : Calls Try.prog 11 #[.pointer (some ⟨M, 0, none⟩)] w fun e w' => e = .returned (.int .i64 t) ∧ w = w' := by
  subst ht; exact touches_any h

set_option maxHeartbeats 4000000 in
theorem copies_short {w : World} (n : Nat) (hn : n ≤ 255) {a1 a2 a3 : Option Addr} {l1 c1 l2 c2 l3 c3 : Nat} (h1 : IsActs w a1 l1) (h2 : IsActs w a2 l2) (h3 : IsActs w a3 l3) (hl1 : l1 ≤ 300) (hl2 : l2 ≤ 300) (hl3 : l3 ≤ 300) :
    Calls Try.prog 4 #[.int .u8 n, .slice a1 l1 c1, .slice a2 l2 c2, .slice a3 l3 c3] w fun e w' => e = .returned (.bool true) ∧ Below w.heap.size w w' := by
  go_enter Try.func4, Try.ntmps4
  go_wp2_with (first
    | (go_at_call 8; refine (awake_any _).mono ?_; rintro e w1 ⟨rfl, hb1⟩)
    | (go_at_call 9; with_reducible refine (new_any n (by omega) w1).mono ?_; rintro e w2 ⟨M, G, rfl, hm, hM, hG, hb2⟩)
    | (go_at_call 9; with_reducible refine (new_any n (by omega) w2).mono ?_; rintro e w3 ⟨M2, G2, rfl, hk, hM2, hG2, hb3⟩))
  have hm3 := hm.below hb3
  have lM := hm.M_lt
  have lG := hm.G_lt
  have b12 := hb1.trans (hb2.mono hb1.size)
  have b13 := b12.trans (hb3.mono b12.size)
  have s1 := hb1.size
  have s2 := hb2.size
  have D : Hid (M2 ≠ M ∧ M2 ≠ G ∧ G2 ≠ M ∧ G2 ≠ G ∧ w.heap.size ≤ M ∧ w.heap.size ≤ G ∧ w.heap.size ≤ M2 ∧ w.heap.size ≤ G2) := ⟨by omega, by omega, by omega, by omega, by omega, by omega, by omega, by omega⟩
  have st0 : St (zeroMS (List.replicate n 0)) n 0 := ⟨by simp [zeroMS], Int.le_refl _, Int.le_refl _⟩
  clear hm lM lG hb1 hb2 hb3 hM hG hM2 hG2 b12 s1 s2
  go_loopw [11] (fun i wr => ∃ k : Nat, k ≤ l1 ∧ i = .int .i64 k ∧ ∃ s, IsMem wr M G s ∧ IsMem wr M2 G2 s ∧ St s n k ∧ Below w.heap.size w wr) (fun i _ => l1 - (intOf i).toNat)
  case atStart => exact ⟨0, Nat.zero_le _, rfl, _, hm3, hk, st0, b13⟩
  case round =>
    obtain ⟨k, hkl, rfl, s, hm, hk2, st, hbel⟩ := hrel
    clear hm3 hk b13 st0
    by_cases hkl : k < l1
    · rcases h1 with h0 | ⟨b, off, K, A, P, Q, rfl, h⟩
      · omega
      have H := h.below hbel
      have hbM : b ≠ M ∧ b ≠ G := by have := D.out; have := h.lt; omega
      have g0 := H.k k hkl
      have g1 := H.a k hkl
      have g2 := H.p k hkl
      have g3 := H.q k hkl
      have bp := H.bp k hkl
      have bq := H.bq k hkl
      obtain ⟨s', x, y, hs⟩ : ∃ s' x y, actS s (K k) (A k) (P k) (Q k) = (s', x, y) := ⟨_, _, _, rfl⟩
      have st' : St s' n (k + 1) := st.act hs
      have HS : Hid (actS s (K k) (A k) (P k) (Q k) = (s', x, y)) := hs
      have ht : 0 ≤ s.t ∧ s.t < 4611686018427387904 := ⟨st.t0, by have := st.t1; omega⟩
      clear hs h h2 h3
      go_wp2_with (first
        | (go_at_call_of 10 (Value.pointer (some ⟨M, 0, none⟩)); with_reducible refine (does_s hm (K k) (A k) (P k) (Q k) bp bq ht HS.out).mono ?_; rintro e w4 ⟨rfl, hm', ho⟩; have H4 := H.only ho hbM.1 hbM.2; have f0 := H4.k k hkl; have f1 := H4.a k hkl; have f2 := H4.p k hkl; have f3 := H4.q k hkl; have hk3 := hk2.other ho D.out.1 D.out.2.1 D.out.2.2.1 D.out.2.2.2.1)
        | (go_at_call_of 10 (Value.pointer (some ⟨M2, 0, none⟩)); with_reducible refine (does_s hk3 (K k) (A k) (P k) (Q k) bp bq ht HS.out).mono ?_; rintro e w5 ⟨rfl, hk4, ho2⟩))
      go_roundw
      case rel =>
        have d := D.out
        exact ⟨k + 1, by omega, by go_num, s', hm'.other ho2 (Ne.symm d.1) (Ne.symm d.2.2.1) (Ne.symm d.2.1) (Ne.symm d.2.2.2.1), hk4, st', ho2.below (ho.below hbel d.2.2.2.2.1 d.2.2.2.2.2.1 (Nat.le_refl _)) d.2.2.2.2.2.2.1 d.2.2.2.2.2.2.2 (Nat.le_refl _)⟩
      case measure => simp [intOf]; omega
    · have hkn : k = l1 := by omega
      subst hkn
      clear h1
      have hX : Hid (s.X.length = n) := st.len
      obtain ⟨tt, htt⟩ : ∃ tt, s.t = tt := ⟨_, rfl⟩
      obtain ⟨q1, q2, q3, q4, hq⟩ : ∃ q1 q2 q3 q4, s.k = q1 ∧ s.a = q2 ∧ s.p = q3 ∧ s.q = q4 := ⟨_, _, _, _, rfl, rfl, rfl, rfl⟩
      have HT : Hid (s.t = tt) := htt
      have HQ : Hid (s.k = q1 ∧ s.a = q2 ∧ s.p = q3 ∧ s.q = q4) := hq
      clear htt hq
      go_wp2_with (first
        | (go_at_call 16; with_reducible refine (copy_any hm (by rw [hX.out]; omega)).mono ?_; rintro e w6 ⟨M3, G3, rfl, hc6, hM3, hG3, b6⟩; have hm6 := hm.below b6)
        | (go_at_call_of 14 (Value.pointer (some ⟨M3, 0, none⟩)); with_reducible refine (words_n hc6 hX.out (by omega)).mono ?_; rintro e w7 ⟨Ra, rfl, ra, hRa, b7⟩; have hm7 := hm6.below b7)
        | (go_at_call_of 14 (Value.pointer (some ⟨M, 0, none⟩)); with_reducible refine (words_n hm7 hX.out (by omega)).mono ?_; rintro e w8 ⟨Rb, rfl, rb, hRb, b8⟩; have ra8 := ra.below b8)
        | (go_at_call 13; with_reducible refine (same_n ra8 rb hX.out (by omega)).mono ?_; rintro e w9 ⟨rfl, b9⟩; have b79 := b8.trans (b9.mono b8.size); have b69 := b7.trans (b79.mono b7.size); have hm9 := hm6.below b69; have hc9 := hc6.below b69)
        | (go_at_call_of 11 (Value.pointer (some ⟨M3, 0, none⟩)); with_reducible refine (touches_s hc9 HT.out).mono ?_; rintro e w' ⟨rfl, rfl⟩)
        | (go_at_call_of 11 (Value.pointer (some ⟨M, 0, none⟩)); with_reducible refine (touches_s hm9 HT.out).mono ?_; rintro e w' ⟨rfl, rfl⟩)
        | (go_at_call_of 12 (Value.pointer (some ⟨M3, 0, none⟩)); with_reducible refine (last_s hc9 HQ.out).mono ?_; rintro e w10 ⟨rfl, b10⟩; have hm10 := hm9.below b10)
        | (go_at_call_of 12 (Value.pointer (some ⟨M, 0, none⟩)); with_reducible refine (last_s hm10 HQ.out).mono ?_; rintro e w11 ⟨rfl, b11⟩))
      have b911 := b10.trans (b11.mono b10.size)
      have b611 := b69.trans (b911.mono b69.size)
      have br11 := b6.trans (b611.mono b6.size)
      have hm11 : IsMem w11 M G s := hm.below br11
      have hk11 : IsMem w11 M2 G2 s := hk2.below br11
      have hc11 : IsMem w11 M3 G3 s := hc6.below b611
      have hbel11 := hbel.trans (br11.mono hbel.size)
      have lM := hm.M_lt
      have lG := hm.G_lt
      have lM2 := hk2.M_lt
      have lG2 := hk2.G_lt
      have sw := hbel.size
      have E : Hid (M ≠ M3 ∧ M ≠ G3 ∧ G ≠ M3 ∧ G ≠ G3 ∧ M2 ≠ M3 ∧ M2 ≠ G3 ∧ G2 ≠ M3 ∧ G2 ≠ G3 ∧ w.heap.size ≤ M3 ∧ w.heap.size ≤ G3) := ⟨by omega, by omega, by omega, by omega, by omega, by omega, by omega, by omega, by omega, by omega⟩
      clear hm hk2 hc6 hm6 hm7 hm9 hc9 hm10 ra rb ra8 b6 b7 b8 b9 b79 b69 b10 b11 b911 b611 br11 hRa hRb hM3 hG3 lM lG lM2 lG2 sw hbel HT HQ hX
      go_loopw [13] (fun i wr => ∃ j : Nat, j ≤ l3 ∧ i = .int .i64 j ∧ IsMem wr M G s ∧ IsMem wr M2 G2 s ∧ (∃ s2, IsMem wr M3 G3 s2 ∧ St s2 n (k + j)) ∧ Below w.heap.size w wr) (fun i _ => l3 - (intOf i).toNat)
      case atStart => exact ⟨0, Nat.zero_le _, rfl, hm11, hk11, ⟨s, hc11, st⟩, hbel11⟩
      case round =>
        obtain ⟨j, hj, rfl, hm, hk2, ⟨s2, hc, st2⟩, hbel⟩ := hrel
        clear hm11 hk11 hc11 hbel11
        by_cases hjl : j < l3
        · rcases h3 with h0 | ⟨b, off, K, A, P, Q, rfl, h⟩
          · omega
          have H := h.below hbel
          have g0 := H.k j hjl
          have g1 := H.a j hjl
          have g2 := H.p j hjl
          have g3 := H.q j hjl
          have bp := H.bp j hjl
          have bq := H.bq j hjl
          obtain ⟨s', x, y, hs⟩ : ∃ s' x y, actS s2 (K j) (A j) (P j) (Q j) = (s', x, y) := ⟨_, _, _, rfl⟩
          have st' : St s' n (k + (j + 1)) := st2.act hs
          have HS : Hid (actS s2 (K j) (A j) (P j) (Q j) = (s', x, y)) := hs
          have ht : 0 ≤ s2.t ∧ s2.t < 4611686018427387904 := ⟨st2.t0, by have := st2.t1; omega⟩
          clear hs h h2
          go_wp2_with (go_at_call 10; with_reducible refine (does_s hc (K j) (A j) (P j) (Q j) bp bq ht HS.out).mono ?_; rintro e w4 ⟨rfl, hc', ho⟩)
          go_roundw
          case rel =>
            have d := E.out
            exact ⟨j + 1, by omega, by go_num, hm.other ho d.1 d.2.1 d.2.2.1 d.2.2.2.1, hk2.other ho d.2.2.2.2.1 d.2.2.2.2.2.1 d.2.2.2.2.2.2.1 d.2.2.2.2.2.2.2.1, ⟨s', hc', st'⟩, ho.below hbel d.2.2.2.2.2.2.2.2.1 d.2.2.2.2.2.2.2.2.2 (Nat.le_refl _)⟩
          case measure => simp [intOf]; omega
        · have hjn : j = l3 := by omega
          subst hjn
          clear h3 hc st2 s2
          go_wp2
          go_loopw [14] (fun i wr => ∃ j : Nat, j ≤ l2 ∧ i = .int .i64 j ∧ ∃ s, IsMem wr M G s ∧ IsMem wr M2 G2 s ∧ St s n (k + j) ∧ Below w.heap.size w wr) (fun i _ => l2 - (intOf i).toNat)
          case atStart => exact ⟨0, Nat.zero_le _, rfl, s, hm, hk2, st, hbel⟩
          case round =>
            obtain ⟨m, hml, rfl, s3, hm3, hk3, st3, hbel3⟩ := hrel
            clear hm hk2 hbel st
            by_cases hml2 : m < l2
            · rcases h2 with h0 | ⟨b, off, K, A, P, Q, rfl, h⟩
              · omega
              have H := h.below hbel3
              have hbM : b ≠ M ∧ b ≠ G := by have := D.out; have := h.lt; omega
              have g0 := H.k m hml2
              have g1 := H.a m hml2
              have g2 := H.p m hml2
              have g3 := H.q m hml2
              have bp := H.bp m hml2
              have bq := H.bq m hml2
              obtain ⟨s', x, y, hs⟩ : ∃ s' x y, actS s3 (K m) (A m) (P m) (Q m) = (s', x, y) := ⟨_, _, _, rfl⟩
              have st' : St s' n (k + (m + 1)) := st3.act hs
              have HS : Hid (actS s3 (K m) (A m) (P m) (Q m) = (s', x, y)) := hs
              have ht : 0 ≤ s3.t ∧ s3.t < 4611686018427387904 := ⟨st3.t0, by have := st3.t1; omega⟩
              clear hs h
              go_wp2_with (first
                | (go_at_call_of 10 (Value.pointer (some ⟨M, 0, none⟩)); with_reducible refine (does_s hm3 (K m) (A m) (P m) (Q m) bp bq ht HS.out).mono ?_; rintro e w4 ⟨rfl, hm', ho⟩; have H4 := H.only ho hbM.1 hbM.2; have f0 := H4.k m hml2; have f1 := H4.a m hml2; have f2 := H4.p m hml2; have f3 := H4.q m hml2; have hk5 := hk3.other ho D.out.1 D.out.2.1 D.out.2.2.1 D.out.2.2.2.1)
                | (go_at_call_of 10 (Value.pointer (some ⟨M2, 0, none⟩)); with_reducible refine (does_s hk5 (K m) (A m) (P m) (Q m) bp bq ht HS.out).mono ?_; rintro e w5 ⟨rfl, hk4, ho2⟩))
              go_roundw
              case rel =>
                have d := D.out
                exact ⟨m + 1, by omega, by go_num, s', hm'.other ho2 (Ne.symm d.1) (Ne.symm d.2.2.1) (Ne.symm d.2.1) (Ne.symm d.2.2.2.1), hk4, st', ho2.below (ho.below hbel3 d.2.2.2.2.1 d.2.2.2.2.2.1 (Nat.le_refl _)) d.2.2.2.2.2.2.1 d.2.2.2.2.2.2.2 (Nat.le_refl _)⟩
              case measure => simp [intOf]; omega
            · have hmn : m = l2 := by omega
              subst hmn
              clear h2
              have hX : Hid (s3.X.length = n) := st3.len
              obtain ⟨t2, htt⟩ : ∃ tt, s3.t = tt := ⟨_, rfl⟩
              have HT : Hid (s3.t = t2) := htt
              clear htt
              go_wp2_with (first
                | (go_at_call_of 14 (Value.pointer (some ⟨M, 0, none⟩)); with_reducible refine (words_n hm3 hX.out (by omega)).mono ?_; rintro e w7 ⟨Ra, rfl, ra, hRa, b7⟩; have hk7 := hk3.below b7)
                | (go_at_call_of 14 (Value.pointer (some ⟨M2, 0, none⟩)); with_reducible refine (words_n hk7 hX.out (by omega)).mono ?_; rintro e w8 ⟨Rb, rfl, rb, hRb, b8⟩; have ra8 := ra.below b8)
                | (go_at_call 13; with_reducible refine (same_n ra8 rb hX.out (by omega)).mono ?_; rintro e w9 ⟨rfl, b9⟩; have b79 := b8.trans (b9.mono b8.size); have b69 := b7.trans (b79.mono b7.size); have hm9 := hm3.below b69; have hk9 := hk3.below b69)
                | (go_at_call_of 11 (Value.pointer (some ⟨M, 0, none⟩)); with_reducible refine (touches_s hm9 HT.out).mono ?_; rintro e w' ⟨rfl, rfl⟩)
                | (go_at_call_of 11 (Value.pointer (some ⟨M2, 0, none⟩)); with_reducible refine (touches_s hk9 HT.out).mono ?_; rintro e w' ⟨rfl, rfl⟩)
                | (go_at_call 8; refine (awake_any _).mono ?_; rintro e w10 ⟨rfl, b10⟩))
              go_ret
              have d9 := hbel3.trans (b69.mono hbel3.size)
              exact ⟨rfl, d9.trans (b10.mono d9.size)⟩
end Go.Proofs.Yteeocnknocoefab
