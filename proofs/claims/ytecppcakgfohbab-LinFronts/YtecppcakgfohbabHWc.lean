/- slices.symMergeCmpFunc, in general. -/
import Derived.Test.YtecppcakgfohbabHU
import Derived.Laws.Shifts
namespace Go.Proofs.Ytecppcakgfohbab
open Go.RowKit Go.Sort

set_option maxRecDepth 100000 in
set_option maxHeartbeats 8000000 in
theorem symC {p q : Value} {cf : Nat → Nat → Int} (hS : SWO (ltN cf)) {w0 w : World} {B off n : Nat} (hC : CmpW p q cf w0 B off n) {d : Array Nat} (S0 : SR w0 B off n d w) {a m b : Nat} (ham : a < m) (hmb : m < b) (hb : b ≤ n) (hn : n < 1000000000) (cap : Nat) (H1 : Srt (ltN cf) a m d) (H2 : Srt (ltN cf) m b d) (H3 : Crs a m b d)
    (hm1 : m ≠ a + 1) (hm2 : b ≠ m + 1) (REC : ∀ (a' m' b' : Nat) (d' : Array Nat) (w' : World), b' - a' < b - a → SR w0 B off n d' w' → a' < m' → m' < b' → b' ≤ n → Srt (ltN cf) a' m' d' → Srt (ltN cf) m' b' d' → Crs a' m' b' d' →
      Calls Try.prog 77 #[.slice (some ⟨B, off, none⟩) n cap, .int .i64 (a' : Int), .int .i64 (m' : Int), .int .i64 (b' : Int), .func (.func 47) #[] #[p, q]] w' fun e w'' => e = .returned (.tuple #[]) ∧ ∃ dn, Mgd (ltN cf) a' b' d' dn ∧ SR w0 B off n dn w'') :
    Calls Try.prog 77 #[.slice (some ⟨B, off, none⟩) n cap, .int .i64 (a : Int), .int .i64 (m : Int), .int .i64 (b : Int), .func (.func 47) #[] #[p, q]] w fun e w' => e = .returned (.tuple #[]) ∧ ∃ dn, Mgd (ltN cf) a b d dn ∧ SR w0 B off n dn w' := by
  have hsd := hid1 S0.len
  replace S0 := hid1 S0
  have HC := hid1 hC
  replace hS := hid1 hS
  replace H1 := hid1 H1
  replace H2 := hid1 H2
  replace H3 := hid1 H3
  clear hC
  have rb : ((m : Int) - (a : Int) == 1) = false := by simp; omega
  have rb2 : ((b : Int) - (m : Int) == 1) = false := by simp; omega
  replace hm1 := hid1 hm1
  replace hm2 := hid1 hm2
  replace REC := hid1 REC
  obtain ⟨M, hM⟩ : ∃ M, M = (a + b) / 2 := ⟨_, rfl⟩
  have zM := hid1 (show ((a : Int) + (b : Int)) / 2 = (M : Int) by omega)
  have lM : a < M ∧ M < b := by have := hm1.out; omega
  obtain ⟨lM1, lM2⟩ := lM
  obtain ⟨N, hN⟩ : ∃ N, N = M + m := ⟨_, rfl⟩
  have rN : IntKind.i64.wrap ((M : Int) + (m : Int)) = (N : Int) := by rw [IntKind.wrap_i64]; omega
  have rN2 : (M : Int) + (m : Int) = (N : Int) := by omega
  have rP : IntKind.i64.wrap ((N : Int) - 1) = (N : Int) - 1 := by rw [IntKind.wrap_i64]; omega
  have lN := hid1 (show N < 2000000000 ∧ b ≤ N + b by omega)
  replace hM := hid1 hM
  replace hN := hid1 hN
  go_enter Try.func77, Try.ntmps77
  go_upto_region 25 with fail
  rw [zM.out]
  by_cases hmM : M < m
  · have hmMz : (M : Int) < (m : Int) := by omega
    obtain ⟨s0, hs0⟩ : ∃ s, s = N - b := ⟨_, rfl⟩
    obtain ⟨r0, hr0⟩ : ∃ s, s = M := ⟨_, rfl⟩
    have rs : IntKind.i64.wrap ((N : Int) - (b : Int)) = (s0 : Int) := by rw [IntKind.wrap_i64]; have := hN.out; have := hM.out; omega
    have rs2 : (N : Int) - (b : Int) = (s0 : Int) := by have := hN.out; have := hM.out; omega
    have P := hid1 (show Prt a m b N s0 r0 from ⟨ham, hmb, by rw [hN.out, hM.out], by have := hN.out; have := hM.out; omega, by have := hN.out; have := hM.out; omega⟩)
    have Bsc0 := hid1 (show s0 ≤ r0 ∧ a ≤ s0 ∧ r0 ≤ m ∧ r0 ≤ M from ⟨P.out.le, P.out.s_.1.1, P.out.r_.1.2, by have := P.out.r_; have := hM.out; omega⟩)
    replace hs0 := hid1 hs0
    replace hr0 := hid1 hr0
    go_wp2
    go_loopg [20, 21] (b - a) (fun g1 vi vj wr => ∃ (s r : Nat), vi = .int .i64 s ∧ vj = .int .i64 r ∧ s ≤ r ∧ a ≤ s ∧ r ≤ m ∧ r ≤ M ∧ r - s ≤ g1 ∧ Hid (SR w0 B off n d wr) ∧ Hid (Bsc (ltN cf) N s0 r0 s r d))
    case atStart => exact ⟨s0, r0, by first | rfl | rw [hs0.out], by first | rfl | rw [hr0.out], (Bsc0.out).1, (Bsc0.out).2.1, (Bsc0.out).2.2.1, (Bsc0.out).2.2.2, by have := Bsc0.out; omega, S0, hid1 (Bsc.start (Bsc0.out).1)⟩
    case round =>
      clear S0 Bsc0
      obtain ⟨s, r, rfl, rfl, hsr, has, hrm, hrM, hg1, S1, I⟩ := hrel
      by_cases hlt : s < r
      · have hltz : (s : Int) < (r : Int) := by omega
        obtain ⟨c, hc⟩ : ∃ h, h = (s + r) / 2 := ⟨_, rfl⟩
        have zh := hid1 (show ((s : Int) + (r : Int)) / 2 = (c : Int) by omega)
        have hc1 : s ≤ c := by omega
        have hc2 : c < r := by omega
        replace hc := hid1 hc
        obtain ⟨e, he⟩ : ∃ e, e = N - 1 - c := ⟨_, rfl⟩
        have hen : m ≤ e ∧ e < b := by have := P.out.n_; have := P.out.s_; have := I.out.le; have := hM.out; have := hN.out; omega
        have hcn : (c : Int) < (n : Int) := by omega
        have hen2 : (e : Int) < (n : Int) := by omega
        have re1 : IntKind.i64.wrap ((N : Int) - 1 - (c : Int)) = (e : Int) := by rw [IntKind.wrap_i64]; have := hN.out; omega
        have re2 : (N : Int) - 1 - (c : Int) = (e : Int) := by have := hN.out; omega
        replace hen := hid1 hen
        replace he := hid1 he
        obtain ⟨x, hx⟩ : ∃ x, x = d[e]! := ⟨_, rfl⟩
        obtain ⟨y, hy⟩ : ∃ x, x = d[c]! := ⟨_, rfl⟩
        have hxn : x < n := by rw [hx]; exact S1.out.rg _ (by omega)
        have hyn : y < n := by rw [hy]; exact S1.out.rg _ (by omega)
        have la := hid1 (fun (w' : World) (b : Below wr.heap.size wr w') => (S1.out.below b).cell e (by omega))
        have lb := hid1 (fun (w' : World) (b : Below wr.heap.size wr w') => (S1.out.below b).cell c (by omega))
        rw [← hx] at la
        rw [← hy] at lb
        have ix := hid1 (And.intro hx hy)
        cases hlv : ltN cf x y with
        | true =>
          have hv : cf x y < 0 := of_decide_eq_true hlv
          have hdv : decide (cf x y < 0) = true := decide_eq_true hv
          clear hx hy
          go_wp2_with fail
          rw [zh.out]
          refine region_below (by kernel_rfl) (by kernel_rfl) ?_
          repeat (first | go_big_quiet_skip | (go_big_quiet_want; go_big_quiet_op; first | go_big_quiet_on | (refine ⟨_, fun _ _ => rfl, ?_⟩; go_big_quiet_on) | (refine ⟨.int .i64 (x : Int), ?_, ?_⟩; (focus (intro w' hw'; have l := la.out w' hw'; simp [l, nv, Result.andThen]; done)); go_big_quiet_on) | (refine ⟨.int .i64 (y : Int), ?_, ?_⟩; (focus (intro w' hw'; have l := lb.out w' hw'; simp [l, nv, Result.andThen]; done)); go_big_quiet_on) | (with_reducible refine ⟨_, (fun w' hw' => HC.out.at S1.out hxn hyn hw'), ?_⟩; go_big_quiet_on)))
          refine wpQuiet_nil ?_
          intro w8 hb8
          have S2 := hid1 (S1.out.below hb8)
          clear la lb S1 hb8
          obtain ⟨hx, hy⟩ := ix.out
          have I2 := hid1 (I.out.back hS.out P.out H1.out H2.out H3.out ⟨hc1, hc2⟩ (by rw [← he.out, ← hx, ← hy]; exact hlv))
          clear hx hy
          go_wp2
          go_roundg (c - s)
          case measure => omega
          case rel => exact ⟨s, c, rfl, rfl, hc1, has, by omega, by omega, Nat.le_refl _, S2, I2⟩
        | false =>
          have hv : ¬ cf x y < 0 := of_decide_eq_false hlv
          have hdv : decide (cf x y < 0) = false := decide_eq_false hv
          clear hx hy
          go_wp2_with fail
          rw [zh.out]
          refine region_below (by kernel_rfl) (by kernel_rfl) ?_
          repeat (first | go_big_quiet_skip | (go_big_quiet_want; go_big_quiet_op; first | go_big_quiet_on | (refine ⟨_, fun _ _ => rfl, ?_⟩; go_big_quiet_on) | (refine ⟨.int .i64 (x : Int), ?_, ?_⟩; (focus (intro w' hw'; have l := la.out w' hw'; simp [l, nv, Result.andThen]; done)); go_big_quiet_on) | (refine ⟨.int .i64 (y : Int), ?_, ?_⟩; (focus (intro w' hw'; have l := lb.out w' hw'; simp [l, nv, Result.andThen]; done)); go_big_quiet_on) | (with_reducible refine ⟨_, (fun w' hw' => HC.out.at S1.out hxn hyn hw'), ?_⟩; go_big_quiet_on)))
          refine wpQuiet_nil ?_
          intro w8 hb8
          have S2 := hid1 (S1.out.below hb8)
          clear la lb S1 hb8
          obtain ⟨hx, hy⟩ := ix.out
          have I2 := hid1 (I.out.go hS.out P.out H1.out H2.out H3.out ⟨hc1, hc2⟩ (by rw [← he.out, ← hx, ← hy]; exact hlv))
          clear hx hy
          go_wp2
          go_roundg (r - (c + 1))
          case measure => omega
          case rel => exact ⟨c + 1, r, by go_num, rfl, by omega, by omega, hrm, hrM, Nat.le_refl _, S2, I2⟩
      · obtain rfl : s = r := by omega
        have hltz : ¬ (s : Int) < (s : Int) := by omega
        obtain ⟨E, hE⟩ : ∃ E, E = N - s := ⟨_, rfl⟩
        have rE : IntKind.i64.wrap ((N : Int) - (s : Int)) = (E : Int) := by rw [IntKind.wrap_i64]; have := hN.out; omega
        have rE2 : (N : Int) - (s : Int) = (E : Int) := by have := hN.out; omega
        have lE : m ≤ E ∧ M ≤ E ∧ E ≤ b := by have := P.out.n_; have := P.out.s_; have := I.out.le; have := hM.out; have := hN.out; omega
        obtain ⟨lE1, lE2, lE3⟩ := lE
        replace hE := hid1 hE
        by_cases g1 : s < m ∧ m < E
        · obtain ⟨g1a, g1b⟩ := g1
          have z1 : (s : Int) < (m : Int) := by omega
          have z2 : (m : Int) < (E : Int) := by omega
          have k1 := hid1 (rot_any S1.out g1a g1b (by omega : E ≤ n) hn cap (.func (.func 47) #[] #[p, q]))
          go_upto_region 41 with (first | (go_at_call 79; refine k1.out.mono ?_; rintro e w' ⟨rfl, d1, X1, X2, S2⟩))
          have F4 := hid1 (four_of hS.out P.out H1.out H2.out H3.out I.out (permIn_mono _ _ s E a b has lE3 (by rw [hsd.out]; exact hb) X1) (by rw [← hE.out]; exact X2))
          replace S2 := hid1 S2
          clear X1 X2 k1 S1
          by_cases g2 : a < s
          · have y1 : (a : Int) < (s : Int) := by omega
            by_cases g3 : s < M
            · have y2 : (s : Int) < (M : Int) := by omega
              have k2 := hid1 (REC.out a s M _ _ (by omega) S2.out g2 g3 (by omega) F4.out.s1 (by rw [hM.out]; exact F4.out.s2) (by rw [hM.out]; exact F4.out.c1))
              go_upto_region 43 with (first | (go_at_call 77; refine k2.out.mono ?_; rintro e w' ⟨rfl, d2, G1, S3⟩))
              replace G1 := hid1 G1
              replace S3 := hid1 S3
              clear k2
              have K3 := hid1 (G1.out.keep (.inl (Nat.le_refl _)) (by have := F4.out.s3; rw [← hM.out, ← hE.out] at this; exact this))
              have K4 := hid1 (G1.out.keep (.inl lE2) (by have := F4.out.s4; rw [← hE.out] at this; exact this))
              have K5 := hid1 (G1.out.crs (x := M) (y := E) (z := b) (.inl (Nat.le_refl _)) (by have := F4.out.c2; rw [← hM.out, ← hE.out] at this; exact this))
              by_cases g4 : M < E
              · have x1 : (M : Int) < (E : Int) := by omega
                by_cases g5 : E < b
                · have x2 : (E : Int) < (b : Int) := by omega
                  have k3 := hid1 (REC.out M E b _ _ (by omega) S3.out g4 g5 hb K3.out K4.out K5.out)
                  go_wp2_with (first | (go_at_call 77; refine k3.out.mono ?_; rintro e w' ⟨rfl, d3, G2, S4⟩))
                  go_end0
                  exact ⟨rfl, d3, F4.out.all (by rw [hsd.out]; exact hb) (by rw [← hM.out]; exact G1.out) (by rw [← hM.out]; exact G2), S4⟩
                · have x2 : ¬ (E : Int) < (b : Int) := by omega
                  go_wp2
                  go_end0
                  exact ⟨rfl, _, F4.out.all (by rw [hsd.out]; exact hb) (by rw [← hM.out]; exact G1.out) (by rw [← hM.out]; exact (K3.out.flat K4.out (.inr (by omega))).mgd), S3.out⟩
              · have x1 : ¬ (M : Int) < (E : Int) := by omega
                go_wp2
                go_end0
                exact ⟨rfl, _, F4.out.all (by rw [hsd.out]; exact hb) (by rw [← hM.out]; exact G1.out) (by rw [← hM.out]; exact (K3.out.flat K4.out (.inl (by omega))).mgd), S3.out⟩
            · have y2 : ¬ (s : Int) < (M : Int) := by omega
              have G1 := hid1 ((F4.out.s1.flat (by have := F4.out.s2; rw [← hM.out] at this; exact this) (.inr (by omega : M ≤ s))).mgd)
              have S3 := S2
              go_upto_region 43 with fail
              have K3 := hid1 (G1.out.keep (.inl (Nat.le_refl _)) (by have := F4.out.s3; rw [← hM.out, ← hE.out] at this; exact this))
              have K4 := hid1 (G1.out.keep (.inl lE2) (by have := F4.out.s4; rw [← hE.out] at this; exact this))
              have K5 := hid1 (G1.out.crs (x := M) (y := E) (z := b) (.inl (Nat.le_refl _)) (by have := F4.out.c2; rw [← hM.out, ← hE.out] at this; exact this))
              by_cases g4 : M < E
              · have x1 : (M : Int) < (E : Int) := by omega
                by_cases g5 : E < b
                · have x2 : (E : Int) < (b : Int) := by omega
                  have k3 := hid1 (REC.out M E b _ _ (by omega) S3.out g4 g5 hb K3.out K4.out K5.out)
                  go_wp2_with (first | (go_at_call 77; refine k3.out.mono ?_; rintro e w' ⟨rfl, d3, G2, S4⟩))
                  go_end0
                  exact ⟨rfl, d3, F4.out.all (by rw [hsd.out]; exact hb) (by rw [← hM.out]; exact G1.out) (by rw [← hM.out]; exact G2), S4⟩
                · have x2 : ¬ (E : Int) < (b : Int) := by omega
                  go_wp2
                  go_end0
                  exact ⟨rfl, _, F4.out.all (by rw [hsd.out]; exact hb) (by rw [← hM.out]; exact G1.out) (by rw [← hM.out]; exact (K3.out.flat K4.out (.inr (by omega))).mgd), S3.out⟩
              · have x1 : ¬ (M : Int) < (E : Int) := by omega
                go_wp2
                go_end0
                exact ⟨rfl, _, F4.out.all (by rw [hsd.out]; exact hb) (by rw [← hM.out]; exact G1.out) (by rw [← hM.out]; exact (K3.out.flat K4.out (.inl (by omega))).mgd), S3.out⟩
          · have y1 : ¬ (a : Int) < (s : Int) := by omega
            have G1 := hid1 ((F4.out.s1.flat (by have := F4.out.s2; rw [← hM.out] at this; exact this) (.inl (by omega : s ≤ a))).mgd)
            have S3 := S2
            go_upto_region 43 with fail
            have K3 := hid1 (G1.out.keep (.inl (Nat.le_refl _)) (by have := F4.out.s3; rw [← hM.out, ← hE.out] at this; exact this))
            have K4 := hid1 (G1.out.keep (.inl lE2) (by have := F4.out.s4; rw [← hE.out] at this; exact this))
            have K5 := hid1 (G1.out.crs (x := M) (y := E) (z := b) (.inl (Nat.le_refl _)) (by have := F4.out.c2; rw [← hM.out, ← hE.out] at this; exact this))
            by_cases g4 : M < E
            · have x1 : (M : Int) < (E : Int) := by omega
              by_cases g5 : E < b
              · have x2 : (E : Int) < (b : Int) := by omega
                have k3 := hid1 (REC.out M E b _ _ (by omega) S3.out g4 g5 hb K3.out K4.out K5.out)
                go_wp2_with (first | (go_at_call 77; refine k3.out.mono ?_; rintro e w' ⟨rfl, d3, G2, S4⟩))
                go_end0
                exact ⟨rfl, d3, F4.out.all (by rw [hsd.out]; exact hb) (by rw [← hM.out]; exact G1.out) (by rw [← hM.out]; exact G2), S4⟩
              · have x2 : ¬ (E : Int) < (b : Int) := by omega
                go_wp2
                go_end0
                exact ⟨rfl, _, F4.out.all (by rw [hsd.out]; exact hb) (by rw [← hM.out]; exact G1.out) (by rw [← hM.out]; exact (K3.out.flat K4.out (.inr (by omega))).mgd), S3.out⟩
            · have x1 : ¬ (M : Int) < (E : Int) := by omega
              go_wp2
              go_end0
              exact ⟨rfl, _, F4.out.all (by rw [hsd.out]; exact hb) (by rw [← hM.out]; exact G1.out) (by rw [← hM.out]; exact (K3.out.flat K4.out (.inl (by omega))).mgd), S3.out⟩
        · have k0 : ∀ t, d[t]! = rotF (d[·]!) s m (N - s) t := fun t => by
            rw [← hE.out]
            unfold rotF
            by_cases q1 : s < m
            · split
              · omega
              · split
                · congr 1; omega
                · rfl
            · split
              · congr 1; omega
              · split
                · omega
                · rfl
          have F4 := hid1 (four_of hS.out P.out H1.out H2.out H3.out I.out (permIn_refl _ _ _) k0)
          have S2 := S1
          by_cases q1 : s < m
          · have z1 : (s : Int) < (m : Int) := by omega
            have z2 : ¬ (m : Int) < (E : Int) := by omega
            go_upto_region 41 with fail
            by_cases g2 : a < s
            · have y1 : (a : Int) < (s : Int) := by omega
              by_cases g3 : s < M
              · have y2 : (s : Int) < (M : Int) := by omega
                have k2 := hid1 (REC.out a s M _ _ (by omega) S2.out g2 g3 (by omega) F4.out.s1 (by rw [hM.out]; exact F4.out.s2) (by rw [hM.out]; exact F4.out.c1))
                go_upto_region 43 with (first | (go_at_call 77; refine k2.out.mono ?_; rintro e w' ⟨rfl, d2, G1, S3⟩))
                replace G1 := hid1 G1
                replace S3 := hid1 S3
                clear k2
                have K3 := hid1 (G1.out.keep (.inl (Nat.le_refl _)) (by have := F4.out.s3; rw [← hM.out, ← hE.out] at this; exact this))
                have K4 := hid1 (G1.out.keep (.inl lE2) (by have := F4.out.s4; rw [← hE.out] at this; exact this))
                have K5 := hid1 (G1.out.crs (x := M) (y := E) (z := b) (.inl (Nat.le_refl _)) (by have := F4.out.c2; rw [← hM.out, ← hE.out] at this; exact this))
                by_cases g4 : M < E
                · have x1 : (M : Int) < (E : Int) := by omega
                  by_cases g5 : E < b
                  · have x2 : (E : Int) < (b : Int) := by omega
                    have k3 := hid1 (REC.out M E b _ _ (by omega) S3.out g4 g5 hb K3.out K4.out K5.out)
                    go_wp2_with (first | (go_at_call 77; refine k3.out.mono ?_; rintro e w' ⟨rfl, d3, G2, S4⟩))
                    go_end0
                    exact ⟨rfl, d3, F4.out.all (by rw [hsd.out]; exact hb) (by rw [← hM.out]; exact G1.out) (by rw [← hM.out]; exact G2), S4⟩
                  · have x2 : ¬ (E : Int) < (b : Int) := by omega
                    go_wp2
                    go_end0
                    exact ⟨rfl, _, F4.out.all (by rw [hsd.out]; exact hb) (by rw [← hM.out]; exact G1.out) (by rw [← hM.out]; exact (K3.out.flat K4.out (.inr (by omega))).mgd), S3.out⟩
                · have x1 : ¬ (M : Int) < (E : Int) := by omega
                  go_wp2
                  go_end0
                  exact ⟨rfl, _, F4.out.all (by rw [hsd.out]; exact hb) (by rw [← hM.out]; exact G1.out) (by rw [← hM.out]; exact (K3.out.flat K4.out (.inl (by omega))).mgd), S3.out⟩
              · have y2 : ¬ (s : Int) < (M : Int) := by omega
                have G1 := hid1 ((F4.out.s1.flat (by have := F4.out.s2; rw [← hM.out] at this; exact this) (.inr (by omega : M ≤ s))).mgd)
                have S3 := S2
                go_upto_region 43 with fail
                have K3 := hid1 (G1.out.keep (.inl (Nat.le_refl _)) (by have := F4.out.s3; rw [← hM.out, ← hE.out] at this; exact this))
                have K4 := hid1 (G1.out.keep (.inl lE2) (by have := F4.out.s4; rw [← hE.out] at this; exact this))
                have K5 := hid1 (G1.out.crs (x := M) (y := E) (z := b) (.inl (Nat.le_refl _)) (by have := F4.out.c2; rw [← hM.out, ← hE.out] at this; exact this))
                by_cases g4 : M < E
                · have x1 : (M : Int) < (E : Int) := by omega
                  by_cases g5 : E < b
                  · have x2 : (E : Int) < (b : Int) := by omega
                    have k3 := hid1 (REC.out M E b _ _ (by omega) S3.out g4 g5 hb K3.out K4.out K5.out)
                    go_wp2_with (first | (go_at_call 77; refine k3.out.mono ?_; rintro e w' ⟨rfl, d3, G2, S4⟩))
                    go_end0
                    exact ⟨rfl, d3, F4.out.all (by rw [hsd.out]; exact hb) (by rw [← hM.out]; exact G1.out) (by rw [← hM.out]; exact G2), S4⟩
                  · have x2 : ¬ (E : Int) < (b : Int) := by omega
                    go_wp2
                    go_end0
                    exact ⟨rfl, _, F4.out.all (by rw [hsd.out]; exact hb) (by rw [← hM.out]; exact G1.out) (by rw [← hM.out]; exact (K3.out.flat K4.out (.inr (by omega))).mgd), S3.out⟩
                · have x1 : ¬ (M : Int) < (E : Int) := by omega
                  go_wp2
                  go_end0
                  exact ⟨rfl, _, F4.out.all (by rw [hsd.out]; exact hb) (by rw [← hM.out]; exact G1.out) (by rw [← hM.out]; exact (K3.out.flat K4.out (.inl (by omega))).mgd), S3.out⟩
            · have y1 : ¬ (a : Int) < (s : Int) := by omega
              have G1 := hid1 ((F4.out.s1.flat (by have := F4.out.s2; rw [← hM.out] at this; exact this) (.inl (by omega : s ≤ a))).mgd)
              have S3 := S2
              go_upto_region 43 with fail
              have K3 := hid1 (G1.out.keep (.inl (Nat.le_refl _)) (by have := F4.out.s3; rw [← hM.out, ← hE.out] at this; exact this))
              have K4 := hid1 (G1.out.keep (.inl lE2) (by have := F4.out.s4; rw [← hE.out] at this; exact this))
              have K5 := hid1 (G1.out.crs (x := M) (y := E) (z := b) (.inl (Nat.le_refl _)) (by have := F4.out.c2; rw [← hM.out, ← hE.out] at this; exact this))
              by_cases g4 : M < E
              · have x1 : (M : Int) < (E : Int) := by omega
                by_cases g5 : E < b
                · have x2 : (E : Int) < (b : Int) := by omega
                  have k3 := hid1 (REC.out M E b _ _ (by omega) S3.out g4 g5 hb K3.out K4.out K5.out)
                  go_wp2_with (first | (go_at_call 77; refine k3.out.mono ?_; rintro e w' ⟨rfl, d3, G2, S4⟩))
                  go_end0
                  exact ⟨rfl, d3, F4.out.all (by rw [hsd.out]; exact hb) (by rw [← hM.out]; exact G1.out) (by rw [← hM.out]; exact G2), S4⟩
                · have x2 : ¬ (E : Int) < (b : Int) := by omega
                  go_wp2
                  go_end0
                  exact ⟨rfl, _, F4.out.all (by rw [hsd.out]; exact hb) (by rw [← hM.out]; exact G1.out) (by rw [← hM.out]; exact (K3.out.flat K4.out (.inr (by omega))).mgd), S3.out⟩
              · have x1 : ¬ (M : Int) < (E : Int) := by omega
                go_wp2
                go_end0
                exact ⟨rfl, _, F4.out.all (by rw [hsd.out]; exact hb) (by rw [← hM.out]; exact G1.out) (by rw [← hM.out]; exact (K3.out.flat K4.out (.inl (by omega))).mgd), S3.out⟩
          · have z1 : ¬ (s : Int) < (m : Int) := by omega
            go_upto_region 41 with fail
            by_cases g2 : a < s
            · have y1 : (a : Int) < (s : Int) := by omega
              by_cases g3 : s < M
              · have y2 : (s : Int) < (M : Int) := by omega
                have k2 := hid1 (REC.out a s M _ _ (by omega) S2.out g2 g3 (by omega) F4.out.s1 (by rw [hM.out]; exact F4.out.s2) (by rw [hM.out]; exact F4.out.c1))
                go_upto_region 43 with (first | (go_at_call 77; refine k2.out.mono ?_; rintro e w' ⟨rfl, d2, G1, S3⟩))
                replace G1 := hid1 G1
                replace S3 := hid1 S3
                clear k2
                have K3 := hid1 (G1.out.keep (.inl (Nat.le_refl _)) (by have := F4.out.s3; rw [← hM.out, ← hE.out] at this; exact this))
                have K4 := hid1 (G1.out.keep (.inl lE2) (by have := F4.out.s4; rw [← hE.out] at this; exact this))
                have K5 := hid1 (G1.out.crs (x := M) (y := E) (z := b) (.inl (Nat.le_refl _)) (by have := F4.out.c2; rw [← hM.out, ← hE.out] at this; exact this))
                by_cases g4 : M < E
                · have x1 : (M : Int) < (E : Int) := by omega
                  by_cases g5 : E < b
                  · have x2 : (E : Int) < (b : Int) := by omega
                    have k3 := hid1 (REC.out M E b _ _ (by omega) S3.out g4 g5 hb K3.out K4.out K5.out)
                    go_wp2_with (first | (go_at_call 77; refine k3.out.mono ?_; rintro e w' ⟨rfl, d3, G2, S4⟩))
                    go_end0
                    exact ⟨rfl, d3, F4.out.all (by rw [hsd.out]; exact hb) (by rw [← hM.out]; exact G1.out) (by rw [← hM.out]; exact G2), S4⟩
                  · have x2 : ¬ (E : Int) < (b : Int) := by omega
                    go_wp2
                    go_end0
                    exact ⟨rfl, _, F4.out.all (by rw [hsd.out]; exact hb) (by rw [← hM.out]; exact G1.out) (by rw [← hM.out]; exact (K3.out.flat K4.out (.inr (by omega))).mgd), S3.out⟩
                · have x1 : ¬ (M : Int) < (E : Int) := by omega
                  go_wp2
                  go_end0
                  exact ⟨rfl, _, F4.out.all (by rw [hsd.out]; exact hb) (by rw [← hM.out]; exact G1.out) (by rw [← hM.out]; exact (K3.out.flat K4.out (.inl (by omega))).mgd), S3.out⟩
              · have y2 : ¬ (s : Int) < (M : Int) := by omega
                have G1 := hid1 ((F4.out.s1.flat (by have := F4.out.s2; rw [← hM.out] at this; exact this) (.inr (by omega : M ≤ s))).mgd)
                have S3 := S2
                go_upto_region 43 with fail
                have K3 := hid1 (G1.out.keep (.inl (Nat.le_refl _)) (by have := F4.out.s3; rw [← hM.out, ← hE.out] at this; exact this))
                have K4 := hid1 (G1.out.keep (.inl lE2) (by have := F4.out.s4; rw [← hE.out] at this; exact this))
                have K5 := hid1 (G1.out.crs (x := M) (y := E) (z := b) (.inl (Nat.le_refl _)) (by have := F4.out.c2; rw [← hM.out, ← hE.out] at this; exact this))
                by_cases g4 : M < E
                · have x1 : (M : Int) < (E : Int) := by omega
                  by_cases g5 : E < b
                  · have x2 : (E : Int) < (b : Int) := by omega
                    have k3 := hid1 (REC.out M E b _ _ (by omega) S3.out g4 g5 hb K3.out K4.out K5.out)
                    go_wp2_with (first | (go_at_call 77; refine k3.out.mono ?_; rintro e w' ⟨rfl, d3, G2, S4⟩))
                    go_end0
                    exact ⟨rfl, d3, F4.out.all (by rw [hsd.out]; exact hb) (by rw [← hM.out]; exact G1.out) (by rw [← hM.out]; exact G2), S4⟩
                  · have x2 : ¬ (E : Int) < (b : Int) := by omega
                    go_wp2
                    go_end0
                    exact ⟨rfl, _, F4.out.all (by rw [hsd.out]; exact hb) (by rw [← hM.out]; exact G1.out) (by rw [← hM.out]; exact (K3.out.flat K4.out (.inr (by omega))).mgd), S3.out⟩
                · have x1 : ¬ (M : Int) < (E : Int) := by omega
                  go_wp2
                  go_end0
                  exact ⟨rfl, _, F4.out.all (by rw [hsd.out]; exact hb) (by rw [← hM.out]; exact G1.out) (by rw [← hM.out]; exact (K3.out.flat K4.out (.inl (by omega))).mgd), S3.out⟩
            · have y1 : ¬ (a : Int) < (s : Int) := by omega
              have G1 := hid1 ((F4.out.s1.flat (by have := F4.out.s2; rw [← hM.out] at this; exact this) (.inl (by omega : s ≤ a))).mgd)
              have S3 := S2
              go_upto_region 43 with fail
              have K3 := hid1 (G1.out.keep (.inl (Nat.le_refl _)) (by have := F4.out.s3; rw [← hM.out, ← hE.out] at this; exact this))
              have K4 := hid1 (G1.out.keep (.inl lE2) (by have := F4.out.s4; rw [← hE.out] at this; exact this))
              have K5 := hid1 (G1.out.crs (x := M) (y := E) (z := b) (.inl (Nat.le_refl _)) (by have := F4.out.c2; rw [← hM.out, ← hE.out] at this; exact this))
              by_cases g4 : M < E
              · have x1 : (M : Int) < (E : Int) := by omega
                by_cases g5 : E < b
                · have x2 : (E : Int) < (b : Int) := by omega
                  have k3 := hid1 (REC.out M E b _ _ (by omega) S3.out g4 g5 hb K3.out K4.out K5.out)
                  go_wp2_with (first | (go_at_call 77; refine k3.out.mono ?_; rintro e w' ⟨rfl, d3, G2, S4⟩))
                  go_end0
                  exact ⟨rfl, d3, F4.out.all (by rw [hsd.out]; exact hb) (by rw [← hM.out]; exact G1.out) (by rw [← hM.out]; exact G2), S4⟩
                · have x2 : ¬ (E : Int) < (b : Int) := by omega
                  go_wp2
                  go_end0
                  exact ⟨rfl, _, F4.out.all (by rw [hsd.out]; exact hb) (by rw [← hM.out]; exact G1.out) (by rw [← hM.out]; exact (K3.out.flat K4.out (.inr (by omega))).mgd), S3.out⟩
              · have x1 : ¬ (M : Int) < (E : Int) := by omega
                go_wp2
                go_end0
                exact ⟨rfl, _, F4.out.all (by rw [hsd.out]; exact hb) (by rw [← hM.out]; exact G1.out) (by rw [← hM.out]; exact (K3.out.flat K4.out (.inl (by omega))).mgd), S3.out⟩
  · have hmMz : ¬ (M : Int) < (m : Int) := by omega
    obtain ⟨s0, hs0⟩ : ∃ s, s = a := ⟨_, rfl⟩
    obtain ⟨r0, hr0⟩ : ∃ s, s = m := ⟨_, rfl⟩
    have P := hid1 (show Prt a m b N s0 r0 from ⟨ham, hmb, by rw [hN.out, hM.out], by have := hN.out; have := hM.out; omega, by have := hN.out; have := hM.out; omega⟩)
    have Bsc0 := hid1 (show s0 ≤ r0 ∧ a ≤ s0 ∧ r0 ≤ m ∧ r0 ≤ M from ⟨P.out.le, P.out.s_.1.1, P.out.r_.1.2, by have := P.out.r_; have := hM.out; omega⟩)
    replace hs0 := hid1 hs0
    replace hr0 := hid1 hr0
    go_wp2
    go_loopg [20, 21] (b - a) (fun g1 vi vj wr => ∃ (s r : Nat), vi = .int .i64 s ∧ vj = .int .i64 r ∧ s ≤ r ∧ a ≤ s ∧ r ≤ m ∧ r ≤ M ∧ r - s ≤ g1 ∧ Hid (SR w0 B off n d wr) ∧ Hid (Bsc (ltN cf) N s0 r0 s r d))
    case atStart => exact ⟨s0, r0, by first | rfl | rw [hs0.out], by first | rfl | rw [hr0.out], (Bsc0.out).1, (Bsc0.out).2.1, (Bsc0.out).2.2.1, (Bsc0.out).2.2.2, by have := Bsc0.out; omega, S0, hid1 (Bsc.start (Bsc0.out).1)⟩
    case round =>
      clear S0 Bsc0
      obtain ⟨s, r, rfl, rfl, hsr, has, hrm, hrM, hg1, S1, I⟩ := hrel
      by_cases hlt : s < r
      · have hltz : (s : Int) < (r : Int) := by omega
        obtain ⟨c, hc⟩ : ∃ h, h = (s + r) / 2 := ⟨_, rfl⟩
        have zh := hid1 (show ((s : Int) + (r : Int)) / 2 = (c : Int) by omega)
        have hc1 : s ≤ c := by omega
        have hc2 : c < r := by omega
        replace hc := hid1 hc
        obtain ⟨e, he⟩ : ∃ e, e = N - 1 - c := ⟨_, rfl⟩
        have hen : m ≤ e ∧ e < b := by have := P.out.n_; have := P.out.s_; have := I.out.le; have := hM.out; have := hN.out; omega
        have hcn : (c : Int) < (n : Int) := by omega
        have hen2 : (e : Int) < (n : Int) := by omega
        have re1 : IntKind.i64.wrap ((N : Int) - 1 - (c : Int)) = (e : Int) := by rw [IntKind.wrap_i64]; have := hN.out; omega
        have re2 : (N : Int) - 1 - (c : Int) = (e : Int) := by have := hN.out; omega
        replace hen := hid1 hen
        replace he := hid1 he
        obtain ⟨x, hx⟩ : ∃ x, x = d[e]! := ⟨_, rfl⟩
        obtain ⟨y, hy⟩ : ∃ x, x = d[c]! := ⟨_, rfl⟩
        have hxn : x < n := by rw [hx]; exact S1.out.rg _ (by omega)
        have hyn : y < n := by rw [hy]; exact S1.out.rg _ (by omega)
        have la := hid1 (fun (w' : World) (b : Below wr.heap.size wr w') => (S1.out.below b).cell e (by omega))
        have lb := hid1 (fun (w' : World) (b : Below wr.heap.size wr w') => (S1.out.below b).cell c (by omega))
        rw [← hx] at la
        rw [← hy] at lb
        have ix := hid1 (And.intro hx hy)
        cases hlv : ltN cf x y with
        | true =>
          have hv : cf x y < 0 := of_decide_eq_true hlv
          have hdv : decide (cf x y < 0) = true := decide_eq_true hv
          clear hx hy
          go_wp2_with fail
          rw [zh.out]
          refine region_below (by kernel_rfl) (by kernel_rfl) ?_
          repeat (first | go_big_quiet_skip | (go_big_quiet_want; go_big_quiet_op; first | go_big_quiet_on | (refine ⟨_, fun _ _ => rfl, ?_⟩; go_big_quiet_on) | (refine ⟨.int .i64 (x : Int), ?_, ?_⟩; (focus (intro w' hw'; have l := la.out w' hw'; simp [l, nv, Result.andThen]; done)); go_big_quiet_on) | (refine ⟨.int .i64 (y : Int), ?_, ?_⟩; (focus (intro w' hw'; have l := lb.out w' hw'; simp [l, nv, Result.andThen]; done)); go_big_quiet_on) | (with_reducible refine ⟨_, (fun w' hw' => HC.out.at S1.out hxn hyn hw'), ?_⟩; go_big_quiet_on)))
          refine wpQuiet_nil ?_
          intro w8 hb8
          have S2 := hid1 (S1.out.below hb8)
          clear la lb S1 hb8
          obtain ⟨hx, hy⟩ := ix.out
          have I2 := hid1 (I.out.back hS.out P.out H1.out H2.out H3.out ⟨hc1, hc2⟩ (by rw [← he.out, ← hx, ← hy]; exact hlv))
          clear hx hy
          go_wp2
          go_roundg (c - s)
          case measure => omega
          case rel => exact ⟨s, c, rfl, rfl, hc1, has, by omega, by omega, Nat.le_refl _, S2, I2⟩
        | false =>
          have hv : ¬ cf x y < 0 := of_decide_eq_false hlv
          have hdv : decide (cf x y < 0) = false := decide_eq_false hv
          clear hx hy
          go_wp2_with fail
          rw [zh.out]
          refine region_below (by kernel_rfl) (by kernel_rfl) ?_
          repeat (first | go_big_quiet_skip | (go_big_quiet_want; go_big_quiet_op; first | go_big_quiet_on | (refine ⟨_, fun _ _ => rfl, ?_⟩; go_big_quiet_on) | (refine ⟨.int .i64 (x : Int), ?_, ?_⟩; (focus (intro w' hw'; have l := la.out w' hw'; simp [l, nv, Result.andThen]; done)); go_big_quiet_on) | (refine ⟨.int .i64 (y : Int), ?_, ?_⟩; (focus (intro w' hw'; have l := lb.out w' hw'; simp [l, nv, Result.andThen]; done)); go_big_quiet_on) | (with_reducible refine ⟨_, (fun w' hw' => HC.out.at S1.out hxn hyn hw'), ?_⟩; go_big_quiet_on)))
          refine wpQuiet_nil ?_
          intro w8 hb8
          have S2 := hid1 (S1.out.below hb8)
          clear la lb S1 hb8
          obtain ⟨hx, hy⟩ := ix.out
          have I2 := hid1 (I.out.go hS.out P.out H1.out H2.out H3.out ⟨hc1, hc2⟩ (by rw [← he.out, ← hx, ← hy]; exact hlv))
          clear hx hy
          go_wp2
          go_roundg (r - (c + 1))
          case measure => omega
          case rel => exact ⟨c + 1, r, by go_num, rfl, by omega, by omega, hrm, hrM, Nat.le_refl _, S2, I2⟩
      · obtain rfl : s = r := by omega
        have hltz : ¬ (s : Int) < (s : Int) := by omega
        obtain ⟨E, hE⟩ : ∃ E, E = N - s := ⟨_, rfl⟩
        have rE : IntKind.i64.wrap ((N : Int) - (s : Int)) = (E : Int) := by rw [IntKind.wrap_i64]; have := hN.out; omega
        have rE2 : (N : Int) - (s : Int) = (E : Int) := by have := hN.out; omega
        have lE : m ≤ E ∧ M ≤ E ∧ E ≤ b := by have := P.out.n_; have := P.out.s_; have := I.out.le; have := hM.out; have := hN.out; omega
        obtain ⟨lE1, lE2, lE3⟩ := lE
        replace hE := hid1 hE
        by_cases g1 : s < m ∧ m < E
        · obtain ⟨g1a, g1b⟩ := g1
          have z1 : (s : Int) < (m : Int) := by omega
          have z2 : (m : Int) < (E : Int) := by omega
          have k1 := hid1 (rot_any S1.out g1a g1b (by omega : E ≤ n) hn cap (.func (.func 47) #[] #[p, q]))
          go_upto_region 41 with (first | (go_at_call 79; refine k1.out.mono ?_; rintro e w' ⟨rfl, d1, X1, X2, S2⟩))
          have F4 := hid1 (four_of hS.out P.out H1.out H2.out H3.out I.out (permIn_mono _ _ s E a b has lE3 (by rw [hsd.out]; exact hb) X1) (by rw [← hE.out]; exact X2))
          replace S2 := hid1 S2
          clear X1 X2 k1 S1
          by_cases g2 : a < s
          · have y1 : (a : Int) < (s : Int) := by omega
            by_cases g3 : s < M
            · have y2 : (s : Int) < (M : Int) := by omega
              have k2 := hid1 (REC.out a s M _ _ (by omega) S2.out g2 g3 (by omega) F4.out.s1 (by rw [hM.out]; exact F4.out.s2) (by rw [hM.out]; exact F4.out.c1))
              go_upto_region 43 with (first | (go_at_call 77; refine k2.out.mono ?_; rintro e w' ⟨rfl, d2, G1, S3⟩))
              replace G1 := hid1 G1
              replace S3 := hid1 S3
              clear k2
              have K3 := hid1 (G1.out.keep (.inl (Nat.le_refl _)) (by have := F4.out.s3; rw [← hM.out, ← hE.out] at this; exact this))
              have K4 := hid1 (G1.out.keep (.inl lE2) (by have := F4.out.s4; rw [← hE.out] at this; exact this))
              have K5 := hid1 (G1.out.crs (x := M) (y := E) (z := b) (.inl (Nat.le_refl _)) (by have := F4.out.c2; rw [← hM.out, ← hE.out] at this; exact this))
              by_cases g4 : M < E
              · have x1 : (M : Int) < (E : Int) := by omega
                by_cases g5 : E < b
                · have x2 : (E : Int) < (b : Int) := by omega
                  have k3 := hid1 (REC.out M E b _ _ (by omega) S3.out g4 g5 hb K3.out K4.out K5.out)
                  go_wp2_with (first | (go_at_call 77; refine k3.out.mono ?_; rintro e w' ⟨rfl, d3, G2, S4⟩))
                  go_end0
                  exact ⟨rfl, d3, F4.out.all (by rw [hsd.out]; exact hb) (by rw [← hM.out]; exact G1.out) (by rw [← hM.out]; exact G2), S4⟩
                · have x2 : ¬ (E : Int) < (b : Int) := by omega
                  go_wp2
                  go_end0
                  exact ⟨rfl, _, F4.out.all (by rw [hsd.out]; exact hb) (by rw [← hM.out]; exact G1.out) (by rw [← hM.out]; exact (K3.out.flat K4.out (.inr (by omega))).mgd), S3.out⟩
              · have x1 : ¬ (M : Int) < (E : Int) := by omega
                go_wp2
                go_end0
                exact ⟨rfl, _, F4.out.all (by rw [hsd.out]; exact hb) (by rw [← hM.out]; exact G1.out) (by rw [← hM.out]; exact (K3.out.flat K4.out (.inl (by omega))).mgd), S3.out⟩
            · have y2 : ¬ (s : Int) < (M : Int) := by omega
              have G1 := hid1 ((F4.out.s1.flat (by have := F4.out.s2; rw [← hM.out] at this; exact this) (.inr (by omega : M ≤ s))).mgd)
              have S3 := S2
              go_upto_region 43 with fail
              have K3 := hid1 (G1.out.keep (.inl (Nat.le_refl _)) (by have := F4.out.s3; rw [← hM.out, ← hE.out] at this; exact this))
              have K4 := hid1 (G1.out.keep (.inl lE2) (by have := F4.out.s4; rw [← hE.out] at this; exact this))
              have K5 := hid1 (G1.out.crs (x := M) (y := E) (z := b) (.inl (Nat.le_refl _)) (by have := F4.out.c2; rw [← hM.out, ← hE.out] at this; exact this))
              by_cases g4 : M < E
              · have x1 : (M : Int) < (E : Int) := by omega
                by_cases g5 : E < b
                · have x2 : (E : Int) < (b : Int) := by omega
                  have k3 := hid1 (REC.out M E b _ _ (by omega) S3.out g4 g5 hb K3.out K4.out K5.out)
                  go_wp2_with (first | (go_at_call 77; refine k3.out.mono ?_; rintro e w' ⟨rfl, d3, G2, S4⟩))
                  go_end0
                  exact ⟨rfl, d3, F4.out.all (by rw [hsd.out]; exact hb) (by rw [← hM.out]; exact G1.out) (by rw [← hM.out]; exact G2), S4⟩
                · have x2 : ¬ (E : Int) < (b : Int) := by omega
                  go_wp2
                  go_end0
                  exact ⟨rfl, _, F4.out.all (by rw [hsd.out]; exact hb) (by rw [← hM.out]; exact G1.out) (by rw [← hM.out]; exact (K3.out.flat K4.out (.inr (by omega))).mgd), S3.out⟩
              · have x1 : ¬ (M : Int) < (E : Int) := by omega
                go_wp2
                go_end0
                exact ⟨rfl, _, F4.out.all (by rw [hsd.out]; exact hb) (by rw [← hM.out]; exact G1.out) (by rw [← hM.out]; exact (K3.out.flat K4.out (.inl (by omega))).mgd), S3.out⟩
          · have y1 : ¬ (a : Int) < (s : Int) := by omega
            have G1 := hid1 ((F4.out.s1.flat (by have := F4.out.s2; rw [← hM.out] at this; exact this) (.inl (by omega : s ≤ a))).mgd)
            have S3 := S2
            go_upto_region 43 with fail
            have K3 := hid1 (G1.out.keep (.inl (Nat.le_refl _)) (by have := F4.out.s3; rw [← hM.out, ← hE.out] at this; exact this))
            have K4 := hid1 (G1.out.keep (.inl lE2) (by have := F4.out.s4; rw [← hE.out] at this; exact this))
            have K5 := hid1 (G1.out.crs (x := M) (y := E) (z := b) (.inl (Nat.le_refl _)) (by have := F4.out.c2; rw [← hM.out, ← hE.out] at this; exact this))
            by_cases g4 : M < E
            · have x1 : (M : Int) < (E : Int) := by omega
              by_cases g5 : E < b
              · have x2 : (E : Int) < (b : Int) := by omega
                have k3 := hid1 (REC.out M E b _ _ (by omega) S3.out g4 g5 hb K3.out K4.out K5.out)
                go_wp2_with (first | (go_at_call 77; refine k3.out.mono ?_; rintro e w' ⟨rfl, d3, G2, S4⟩))
                go_end0
                exact ⟨rfl, d3, F4.out.all (by rw [hsd.out]; exact hb) (by rw [← hM.out]; exact G1.out) (by rw [← hM.out]; exact G2), S4⟩
              · have x2 : ¬ (E : Int) < (b : Int) := by omega
                go_wp2
                go_end0
                exact ⟨rfl, _, F4.out.all (by rw [hsd.out]; exact hb) (by rw [← hM.out]; exact G1.out) (by rw [← hM.out]; exact (K3.out.flat K4.out (.inr (by omega))).mgd), S3.out⟩
            · have x1 : ¬ (M : Int) < (E : Int) := by omega
              go_wp2
              go_end0
              exact ⟨rfl, _, F4.out.all (by rw [hsd.out]; exact hb) (by rw [← hM.out]; exact G1.out) (by rw [← hM.out]; exact (K3.out.flat K4.out (.inl (by omega))).mgd), S3.out⟩
        · have k0 : ∀ t, d[t]! = rotF (d[·]!) s m (N - s) t := fun t => by
            rw [← hE.out]
            unfold rotF
            by_cases q1 : s < m
            · split
              · omega
              · split
                · congr 1; omega
                · rfl
            · split
              · congr 1; omega
              · split
                · omega
                · rfl
          have F4 := hid1 (four_of hS.out P.out H1.out H2.out H3.out I.out (permIn_refl _ _ _) k0)
          have S2 := S1
          by_cases q1 : s < m
          · have z1 : (s : Int) < (m : Int) := by omega
            have z2 : ¬ (m : Int) < (E : Int) := by omega
            go_upto_region 41 with fail
            by_cases g2 : a < s
            · have y1 : (a : Int) < (s : Int) := by omega
              by_cases g3 : s < M
              · have y2 : (s : Int) < (M : Int) := by omega
                have k2 := hid1 (REC.out a s M _ _ (by omega) S2.out g2 g3 (by omega) F4.out.s1 (by rw [hM.out]; exact F4.out.s2) (by rw [hM.out]; exact F4.out.c1))
                go_upto_region 43 with (first | (go_at_call 77; refine k2.out.mono ?_; rintro e w' ⟨rfl, d2, G1, S3⟩))
                replace G1 := hid1 G1
                replace S3 := hid1 S3
                clear k2
                have K3 := hid1 (G1.out.keep (.inl (Nat.le_refl _)) (by have := F4.out.s3; rw [← hM.out, ← hE.out] at this; exact this))
                have K4 := hid1 (G1.out.keep (.inl lE2) (by have := F4.out.s4; rw [← hE.out] at this; exact this))
                have K5 := hid1 (G1.out.crs (x := M) (y := E) (z := b) (.inl (Nat.le_refl _)) (by have := F4.out.c2; rw [← hM.out, ← hE.out] at this; exact this))
                by_cases g4 : M < E
                · have x1 : (M : Int) < (E : Int) := by omega
                  by_cases g5 : E < b
                  · have x2 : (E : Int) < (b : Int) := by omega
                    have k3 := hid1 (REC.out M E b _ _ (by omega) S3.out g4 g5 hb K3.out K4.out K5.out)
                    go_wp2_with (first | (go_at_call 77; refine k3.out.mono ?_; rintro e w' ⟨rfl, d3, G2, S4⟩))
                    go_end0
                    exact ⟨rfl, d3, F4.out.all (by rw [hsd.out]; exact hb) (by rw [← hM.out]; exact G1.out) (by rw [← hM.out]; exact G2), S4⟩
                  · have x2 : ¬ (E : Int) < (b : Int) := by omega
                    go_wp2
                    go_end0
                    exact ⟨rfl, _, F4.out.all (by rw [hsd.out]; exact hb) (by rw [← hM.out]; exact G1.out) (by rw [← hM.out]; exact (K3.out.flat K4.out (.inr (by omega))).mgd), S3.out⟩
                · have x1 : ¬ (M : Int) < (E : Int) := by omega
                  go_wp2
                  go_end0
                  exact ⟨rfl, _, F4.out.all (by rw [hsd.out]; exact hb) (by rw [← hM.out]; exact G1.out) (by rw [← hM.out]; exact (K3.out.flat K4.out (.inl (by omega))).mgd), S3.out⟩
              · have y2 : ¬ (s : Int) < (M : Int) := by omega
                have G1 := hid1 ((F4.out.s1.flat (by have := F4.out.s2; rw [← hM.out] at this; exact this) (.inr (by omega : M ≤ s))).mgd)
                have S3 := S2
                go_upto_region 43 with fail
                have K3 := hid1 (G1.out.keep (.inl (Nat.le_refl _)) (by have := F4.out.s3; rw [← hM.out, ← hE.out] at this; exact this))
                have K4 := hid1 (G1.out.keep (.inl lE2) (by have := F4.out.s4; rw [← hE.out] at this; exact this))
                have K5 := hid1 (G1.out.crs (x := M) (y := E) (z := b) (.inl (Nat.le_refl _)) (by have := F4.out.c2; rw [← hM.out, ← hE.out] at this; exact this))
                by_cases g4 : M < E
                · have x1 : (M : Int) < (E : Int) := by omega
                  by_cases g5 : E < b
                  · have x2 : (E : Int) < (b : Int) := by omega
                    have k3 := hid1 (REC.out M E b _ _ (by omega) S3.out g4 g5 hb K3.out K4.out K5.out)
                    go_wp2_with (first | (go_at_call 77; refine k3.out.mono ?_; rintro e w' ⟨rfl, d3, G2, S4⟩))
                    go_end0
                    exact ⟨rfl, d3, F4.out.all (by rw [hsd.out]; exact hb) (by rw [← hM.out]; exact G1.out) (by rw [← hM.out]; exact G2), S4⟩
                  · have x2 : ¬ (E : Int) < (b : Int) := by omega
                    go_wp2
                    go_end0
                    exact ⟨rfl, _, F4.out.all (by rw [hsd.out]; exact hb) (by rw [← hM.out]; exact G1.out) (by rw [← hM.out]; exact (K3.out.flat K4.out (.inr (by omega))).mgd), S3.out⟩
                · have x1 : ¬ (M : Int) < (E : Int) := by omega
                  go_wp2
                  go_end0
                  exact ⟨rfl, _, F4.out.all (by rw [hsd.out]; exact hb) (by rw [← hM.out]; exact G1.out) (by rw [← hM.out]; exact (K3.out.flat K4.out (.inl (by omega))).mgd), S3.out⟩
            · have y1 : ¬ (a : Int) < (s : Int) := by omega
              have G1 := hid1 ((F4.out.s1.flat (by have := F4.out.s2; rw [← hM.out] at this; exact this) (.inl (by omega : s ≤ a))).mgd)
              have S3 := S2
              go_upto_region 43 with fail
              have K3 := hid1 (G1.out.keep (.inl (Nat.le_refl _)) (by have := F4.out.s3; rw [← hM.out, ← hE.out] at this; exact this))
              have K4 := hid1 (G1.out.keep (.inl lE2) (by have := F4.out.s4; rw [← hE.out] at this; exact this))
              have K5 := hid1 (G1.out.crs (x := M) (y := E) (z := b) (.inl (Nat.le_refl _)) (by have := F4.out.c2; rw [← hM.out, ← hE.out] at this; exact this))
              by_cases g4 : M < E
              · have x1 : (M : Int) < (E : Int) := by omega
                by_cases g5 : E < b
                · have x2 : (E : Int) < (b : Int) := by omega
                  have k3 := hid1 (REC.out M E b _ _ (by omega) S3.out g4 g5 hb K3.out K4.out K5.out)
                  go_wp2_with (first | (go_at_call 77; refine k3.out.mono ?_; rintro e w' ⟨rfl, d3, G2, S4⟩))
                  go_end0
                  exact ⟨rfl, d3, F4.out.all (by rw [hsd.out]; exact hb) (by rw [← hM.out]; exact G1.out) (by rw [← hM.out]; exact G2), S4⟩
                · have x2 : ¬ (E : Int) < (b : Int) := by omega
                  go_wp2
                  go_end0
                  exact ⟨rfl, _, F4.out.all (by rw [hsd.out]; exact hb) (by rw [← hM.out]; exact G1.out) (by rw [← hM.out]; exact (K3.out.flat K4.out (.inr (by omega))).mgd), S3.out⟩
              · have x1 : ¬ (M : Int) < (E : Int) := by omega
                go_wp2
                go_end0
                exact ⟨rfl, _, F4.out.all (by rw [hsd.out]; exact hb) (by rw [← hM.out]; exact G1.out) (by rw [← hM.out]; exact (K3.out.flat K4.out (.inl (by omega))).mgd), S3.out⟩
          · have z1 : ¬ (s : Int) < (m : Int) := by omega
            go_upto_region 41 with fail
            by_cases g2 : a < s
            · have y1 : (a : Int) < (s : Int) := by omega
              by_cases g3 : s < M
              · have y2 : (s : Int) < (M : Int) := by omega
                have k2 := hid1 (REC.out a s M _ _ (by omega) S2.out g2 g3 (by omega) F4.out.s1 (by rw [hM.out]; exact F4.out.s2) (by rw [hM.out]; exact F4.out.c1))
                go_upto_region 43 with (first | (go_at_call 77; refine k2.out.mono ?_; rintro e w' ⟨rfl, d2, G1, S3⟩))
                replace G1 := hid1 G1
                replace S3 := hid1 S3
                clear k2
                have K3 := hid1 (G1.out.keep (.inl (Nat.le_refl _)) (by have := F4.out.s3; rw [← hM.out, ← hE.out] at this; exact this))
                have K4 := hid1 (G1.out.keep (.inl lE2) (by have := F4.out.s4; rw [← hE.out] at this; exact this))
                have K5 := hid1 (G1.out.crs (x := M) (y := E) (z := b) (.inl (Nat.le_refl _)) (by have := F4.out.c2; rw [← hM.out, ← hE.out] at this; exact this))
                by_cases g4 : M < E
                · have x1 : (M : Int) < (E : Int) := by omega
                  by_cases g5 : E < b
                  · have x2 : (E : Int) < (b : Int) := by omega
                    have k3 := hid1 (REC.out M E b _ _ (by omega) S3.out g4 g5 hb K3.out K4.out K5.out)
                    go_wp2_with (first | (go_at_call 77; refine k3.out.mono ?_; rintro e w' ⟨rfl, d3, G2, S4⟩))
                    go_end0
                    exact ⟨rfl, d3, F4.out.all (by rw [hsd.out]; exact hb) (by rw [← hM.out]; exact G1.out) (by rw [← hM.out]; exact G2), S4⟩
                  · have x2 : ¬ (E : Int) < (b : Int) := by omega
                    go_wp2
                    go_end0
                    exact ⟨rfl, _, F4.out.all (by rw [hsd.out]; exact hb) (by rw [← hM.out]; exact G1.out) (by rw [← hM.out]; exact (K3.out.flat K4.out (.inr (by omega))).mgd), S3.out⟩
                · have x1 : ¬ (M : Int) < (E : Int) := by omega
                  go_wp2
                  go_end0
                  exact ⟨rfl, _, F4.out.all (by rw [hsd.out]; exact hb) (by rw [← hM.out]; exact G1.out) (by rw [← hM.out]; exact (K3.out.flat K4.out (.inl (by omega))).mgd), S3.out⟩
              · have y2 : ¬ (s : Int) < (M : Int) := by omega
                have G1 := hid1 ((F4.out.s1.flat (by have := F4.out.s2; rw [← hM.out] at this; exact this) (.inr (by omega : M ≤ s))).mgd)
                have S3 := S2
                go_upto_region 43 with fail
                have K3 := hid1 (G1.out.keep (.inl (Nat.le_refl _)) (by have := F4.out.s3; rw [← hM.out, ← hE.out] at this; exact this))
                have K4 := hid1 (G1.out.keep (.inl lE2) (by have := F4.out.s4; rw [← hE.out] at this; exact this))
                have K5 := hid1 (G1.out.crs (x := M) (y := E) (z := b) (.inl (Nat.le_refl _)) (by have := F4.out.c2; rw [← hM.out, ← hE.out] at this; exact this))
                by_cases g4 : M < E
                · have x1 : (M : Int) < (E : Int) := by omega
                  by_cases g5 : E < b
                  · have x2 : (E : Int) < (b : Int) := by omega
                    have k3 := hid1 (REC.out M E b _ _ (by omega) S3.out g4 g5 hb K3.out K4.out K5.out)
                    go_wp2_with (first | (go_at_call 77; refine k3.out.mono ?_; rintro e w' ⟨rfl, d3, G2, S4⟩))
                    go_end0
                    exact ⟨rfl, d3, F4.out.all (by rw [hsd.out]; exact hb) (by rw [← hM.out]; exact G1.out) (by rw [← hM.out]; exact G2), S4⟩
                  · have x2 : ¬ (E : Int) < (b : Int) := by omega
                    go_wp2
                    go_end0
                    exact ⟨rfl, _, F4.out.all (by rw [hsd.out]; exact hb) (by rw [← hM.out]; exact G1.out) (by rw [← hM.out]; exact (K3.out.flat K4.out (.inr (by omega))).mgd), S3.out⟩
                · have x1 : ¬ (M : Int) < (E : Int) := by omega
                  go_wp2
                  go_end0
                  exact ⟨rfl, _, F4.out.all (by rw [hsd.out]; exact hb) (by rw [← hM.out]; exact G1.out) (by rw [← hM.out]; exact (K3.out.flat K4.out (.inl (by omega))).mgd), S3.out⟩
            · have y1 : ¬ (a : Int) < (s : Int) := by omega
              have G1 := hid1 ((F4.out.s1.flat (by have := F4.out.s2; rw [← hM.out] at this; exact this) (.inl (by omega : s ≤ a))).mgd)
              have S3 := S2
              go_upto_region 43 with fail
              have K3 := hid1 (G1.out.keep (.inl (Nat.le_refl _)) (by have := F4.out.s3; rw [← hM.out, ← hE.out] at this; exact this))
              have K4 := hid1 (G1.out.keep (.inl lE2) (by have := F4.out.s4; rw [← hE.out] at this; exact this))
              have K5 := hid1 (G1.out.crs (x := M) (y := E) (z := b) (.inl (Nat.le_refl _)) (by have := F4.out.c2; rw [← hM.out, ← hE.out] at this; exact this))
              by_cases g4 : M < E
              · have x1 : (M : Int) < (E : Int) := by omega
                by_cases g5 : E < b
                · have x2 : (E : Int) < (b : Int) := by omega
                  have k3 := hid1 (REC.out M E b _ _ (by omega) S3.out g4 g5 hb K3.out K4.out K5.out)
                  go_wp2_with (first | (go_at_call 77; refine k3.out.mono ?_; rintro e w' ⟨rfl, d3, G2, S4⟩))
                  go_end0
                  exact ⟨rfl, d3, F4.out.all (by rw [hsd.out]; exact hb) (by rw [← hM.out]; exact G1.out) (by rw [← hM.out]; exact G2), S4⟩
                · have x2 : ¬ (E : Int) < (b : Int) := by omega
                  go_wp2
                  go_end0
                  exact ⟨rfl, _, F4.out.all (by rw [hsd.out]; exact hb) (by rw [← hM.out]; exact G1.out) (by rw [← hM.out]; exact (K3.out.flat K4.out (.inr (by omega))).mgd), S3.out⟩
              · have x1 : ¬ (M : Int) < (E : Int) := by omega
                go_wp2
                go_end0
                exact ⟨rfl, _, F4.out.all (by rw [hsd.out]; exact hb) (by rw [← hM.out]; exact G1.out) (by rw [← hM.out]; exact (K3.out.flat K4.out (.inl (by omega))).mgd), S3.out⟩
end Go.Proofs.Ytecppcakgfohbab
