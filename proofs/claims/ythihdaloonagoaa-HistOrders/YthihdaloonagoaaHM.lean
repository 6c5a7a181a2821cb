/- The reference's Right. -/
import Derived.Test.YthihdaloonagoaaHL
namespace Go.Proofs.Ythihdaloonagoaa
open Go.RowKit Go.Sort
set_option linter.unusedSimpArgs false
set_option linter.unusedVariables false

set_option maxRecDepth 100000 in
set_option maxHeartbeats 16000000 in
theorem rright_any {w : World} {ad : Option Addr} {n : Nat} (cap : Nat) {E : List Ev} (hE : n = E.length) (hR : RdEv w ad E) (hn : n < 400000000) (c : Int) :
    Calls Try.prog 9 #[.slice ad n cap, .int .i64 c] w fun r w' => ∃ b : Bool, r = .returned (.bool b) ∧ (b = true ↔ RightP E c) ∧ Below w.heap.size w w' := by
  obtain ⟨rb, hrb⟩ := is_bool (RightP E c)
  refine Calls.mono (P := Try.prog) ?_ (fun (r : Ending) w' (h : r = .returned (.bool rb) ∧ Below w.heap.size w w') => ⟨rb, h.1, hrb, h.2⟩)
  replace hrb := hid1 hrb
  replace hE := hid1 hE
  have hR := hid1 hR
  go_enter Try.func9, Try.ntmps9
  go_wp2
  go_loopg [5] n (fun g1 vi wr => ∃ (i : Nat), vi = .int .i64 i ∧ i ≤ n ∧ n - i ≤ g1 ∧ Hid (Below w.heap.size w wr) ∧ Hid (∀ j e, j < i → E[j]? = some e → okE c e ∧ ∀ k f, E[k]? = some f → k ≠ j → twoE e f))
  case atStart => exact ⟨0, by go_num, Nat.zero_le _, by omega, hid1 (Below.refl _ _), hid1 (fun j e h => by omega)⟩
  case round =>
    obtain ⟨i, rfl, hi, hg1, bel, I⟩ := hrel
    by_cases hlt : i < n
    · have hltz : (i : Int) < (n : Int) := by omega
      obtain ⟨e, he⟩ : ∃ e, E[i]? = some e := ⟨_, List.getElem?_eq_getElem (by have := hE.out; omega)⟩
      obtain ⟨bE, oE, ha, hb, hc⟩ := hR.out.at he
      subst ha
      obtain ⟨c0, c1, c2, c3, c4, c5, c6, c7, c8, c9, c10, c11, c12, c13⟩ := hc _ bel.out
      clear hc
      have hq := new_obj wr (.cells #[.int .i64 e.cl, .int .i64 e.op, .int .i64 e.bg, .int .i64 e.pt, .int .i64 e.en, .bool e.bh, .int .i64 e.kd, .int .i64 e.nn, .int .u64 (e.hh : Nat), .int .u64 (e.hx : Nat), .int .u64 (e.hy : Nat), .int .i64 e.er, .int .u64 (e.ah : Nat), .bool e.ay] 36)
      have bA := alloc_below wr (.cells #[.int .i64 e.cl, .int .i64 e.op, .int .i64 e.bg, .int .i64 e.pt, .int .i64 e.en, .bool e.bh, .int .i64 e.kd, .int .i64 e.nn, .int .u64 (e.hh : Nat), .int .u64 (e.hx : Nat), .int .u64 (e.hy : Nat), .int .i64 e.er, .int .u64 (e.ah : Nat), .bool e.ay] 36)
      go_upto_region 5 with fail
      clear c0 c1 c2 c3 c4 c5 c6 c7 c8 c9 c10 c11 c12 c13
      generalize World.alloc _ _ = w2 at *
      generalize wr.heap.size = bq at hq ⊢
      have x0 : w2.cell? ⟨bq, 0, none⟩ = some (.int .i64 e.cl) := by simp [World.cell?, hq]
      have x2 : w2.cell? ⟨bq, 2, none⟩ = some (.int .i64 e.bg) := by simp [World.cell?, hq]
      have x3 : w2.cell? ⟨bq, 3, none⟩ = some (.int .i64 e.pt) := by simp [World.cell?, hq]
      have x4 : w2.cell? ⟨bq, 4, none⟩ = some (.int .i64 e.en) := by simp [World.cell?, hq]
      replace hq := hid1 hq
      replace bel := hid1 (seq_below bel.out bA)
      clear bA
      replace he := hid1 he
      by_cases h1 : e.cl < 0
      · have hf : ¬ okE c e := fun h => by have := h.1; omega
        have d1 : decide (e.cl < 0) = true := decide_eq_true h1
        have hr : rb = false := by
          cases hb : rb with
          | false => rfl
          | true => exact absurd ((hrb.out.1 hb).1 i e he.out) hf
        subst hr
        clear hf
        go_wp2
        go_ret
        exact ⟨rfl, bel.out⟩
      · have d1 : decide (e.cl < 0) = false := decide_eq_false h1
        by_cases h2 : c ≤ e.cl
        · have hf : ¬ okE c e := fun h => by have := h.2.1; omega
          have d2 : decide (c ≤ e.cl) = true := decide_eq_true h2
          have hr : rb = false := by
            cases hb : rb with
            | false => rfl
            | true => exact absurd ((hrb.out.1 hb).1 i e he.out) hf
          subst hr
          clear hf
          go_wp2
          go_ret
          exact ⟨rfl, bel.out⟩
        · have d2 : decide (c ≤ e.cl) = false := decide_eq_false h2
          by_cases h3 : e.pt < e.bg
          · have hf : ¬ okE c e := fun h => by have := h.2.2.1; omega
            have d3 : decide (e.pt < e.bg) = true := decide_eq_true h3
            have hr : rb = false := by
              cases hb : rb with
              | false => rfl
              | true => exact absurd ((hrb.out.1 hb).1 i e he.out) hf
            subst hr
            clear hf
            go_wp2
            go_ret
            exact ⟨rfl, bel.out⟩
          · have d3 : decide (e.pt < e.bg) = false := decide_eq_false h3
            by_cases h4 : e.en < e.pt
            · have hf : ¬ okE c e := fun h => by have := h.2.2.2; omega
              have d4 : decide (e.en < e.pt) = true := decide_eq_true h4
              have hr : rb = false := by
                cases hb : rb with
                | false => rfl
                | true => exact absurd ((hrb.out.1 hb).1 i e he.out) hf
              subst hr
              clear hf
              go_wp2
              go_ret
              exact ⟨rfl, bel.out⟩
            · have d4 : decide (e.en < e.pt) = false := decide_eq_false h4
              have hok := hid1 (show okE c e from ⟨by omega, by omega, by omega, by omega⟩)
              go_wp2
              clear x0 x2 x3 x4
              go_loopg [7] n (fun g2 vk wr => ∃ (k : Nat), vk = .int .i64 k ∧ k ≤ n ∧ n - k ≤ g2 ∧ Hid (Below w2.heap.size w2 wr) ∧ Hid (∀ j f, j < k → E[j]? = some f → j ≠ i → twoE e f))
              case atStart => exact ⟨0, by go_num, Nat.zero_le _, by omega, hid1 (Below.refl _ _), hid1 (fun j e h => by omega)⟩
              case round =>
                obtain ⟨k, rfl, hk, hg2, b2, I2⟩ := hrel
                by_cases hlk : k < n
                · have hlkz : (k : Int) < (n : Int) := by omega
                  obtain ⟨f, hf⟩ : ∃ e, E[k]? = some e := ⟨_, List.getElem?_eq_getElem (by have := hE.out; omega)⟩
                  obtain ⟨bE', oE', ha, hb', hc⟩ := hR.out.at hf
                  simp only [Option.some.injEq, Addr.mk.injEq] at ha
                  obtain ⟨rfl, rfl, -⟩ := ha
                  obtain ⟨c0, c1, c2, c3, c4, c5, c6, c7, c8, c9, c10, c11, c12, c13⟩ := hc _ (seq_below bel.out b2.out)
                  clear hc hb'
                  have hq2 := new_obj wr (.cells #[.int .i64 f.cl, .int .i64 f.op, .int .i64 f.bg, .int .i64 f.pt, .int .i64 f.en, .bool f.bh, .int .i64 f.kd, .int .i64 f.nn, .int .u64 (f.hh : Nat), .int .u64 (f.hx : Nat), .int .u64 (f.hy : Nat), .int .i64 f.er, .int .u64 (f.ah : Nat), .bool f.ay] 36)
                  have bA := alloc_below wr (.cells #[.int .i64 f.cl, .int .i64 f.op, .int .i64 f.bg, .int .i64 f.pt, .int .i64 f.en, .bool f.bh, .int .i64 f.kd, .int .i64 f.nn, .int .u64 (f.hh : Nat), .int .u64 (f.hx : Nat), .int .u64 (f.hy : Nat), .int .i64 f.er, .int .u64 (f.ah : Nat), .bool f.ay] 36)
                  have hqx := (seq_below b2.out bA).block _ (lt_of_block hq.out) |>.trans hq.out
                  go_upto_region 11 with fail
                  clear c0 c1 c2 c3 c4 c5 c6 c7 c8 c9 c10 c11 c12 c13
                  generalize World.alloc _ _ = w3 at *
                  generalize wr.heap.size = bf at hq2 ⊢
                  obtain ⟨y0, y1, y2, y3, y4, y5, y6, y7, y8, y9, y10, y11, y12, y13⟩ : w3.cell? ⟨bq, 0, none⟩ = some (.int .i64 e.cl) ∧ w3.cell? ⟨bq, 1, none⟩ = some (.int .i64 e.op) ∧ w3.cell? ⟨bq, 2, none⟩ = some (.int .i64 e.bg) ∧ w3.cell? ⟨bq, 3, none⟩ = some (.int .i64 e.pt) ∧ w3.cell? ⟨bq, 4, none⟩ = some (.int .i64 e.en) ∧ w3.cell? ⟨bq, 5, none⟩ = some (.bool e.bh) ∧ w3.cell? ⟨bq, 6, none⟩ = some (.int .i64 e.kd) ∧ w3.cell? ⟨bq, 7, none⟩ = some (.int .i64 e.nn) ∧ w3.cell? ⟨bq, 8, none⟩ = some (.int .u64 (e.hh : Nat)) ∧ w3.cell? ⟨bq, 9, none⟩ = some (.int .u64 (e.hx : Nat)) ∧ w3.cell? ⟨bq, 10, none⟩ = some (.int .u64 (e.hy : Nat)) ∧ w3.cell? ⟨bq, 11, none⟩ = some (.int .i64 e.er) ∧ w3.cell? ⟨bq, 12, none⟩ = some (.int .u64 (e.ah : Nat)) ∧ w3.cell? ⟨bq, 13, none⟩ = some (.bool e.ay) := by simp [World.cell?, hqx]
                  obtain ⟨v0, v1, v2, v3, v4, v5, v6, v7, v8, v9, v10, v11, v12, v13⟩ : w3.cell? ⟨bf, 0, none⟩ = some (.int .i64 f.cl) ∧ w3.cell? ⟨bf, 1, none⟩ = some (.int .i64 f.op) ∧ w3.cell? ⟨bf, 2, none⟩ = some (.int .i64 f.bg) ∧ w3.cell? ⟨bf, 3, none⟩ = some (.int .i64 f.pt) ∧ w3.cell? ⟨bf, 4, none⟩ = some (.int .i64 f.en) ∧ w3.cell? ⟨bf, 5, none⟩ = some (.bool f.bh) ∧ w3.cell? ⟨bf, 6, none⟩ = some (.int .i64 f.kd) ∧ w3.cell? ⟨bf, 7, none⟩ = some (.int .i64 f.nn) ∧ w3.cell? ⟨bf, 8, none⟩ = some (.int .u64 (f.hh : Nat)) ∧ w3.cell? ⟨bf, 9, none⟩ = some (.int .u64 (f.hx : Nat)) ∧ w3.cell? ⟨bf, 10, none⟩ = some (.int .u64 (f.hy : Nat)) ∧ w3.cell? ⟨bf, 11, none⟩ = some (.int .i64 f.er) ∧ w3.cell? ⟨bf, 12, none⟩ = some (.int .u64 (f.ah : Nat)) ∧ w3.cell? ⟨bf, 13, none⟩ = some (.bool f.ay) := by simp [World.cell?, hq2]
                  clear hq2 hqx
                  replace b2 := hid1 (seq_below b2.out bA)
                  clear bA
                  replace hf := hid1 hf
                  by_cases p0 : k = i
                  · have t0 : ((k : Int) != (i : Int)) = false := by simp; omega
                    have J := hid1 (fun (h : k ≠ i) => absurd p0 h : k ≠ i → twoE e f)
                    replace p0 := hid1 p0
                    go_wp2
                    go_roundg (n - (k + 1))
                    case measure => omega
                    case rel => exact ⟨k + 1, by go_num, by omega, Nat.le_refl _, b2, hid1 (fun j f1 hj h1 h2 => by
                        by_cases q : j = k
                        · subst q
                          rw [hf.out] at h1; obtain rfl := Option.some.inj h1
                          exact J.out h2
                        · exact I2.out j f1 (by omega) h1 h2)⟩
                  · have t0 : ((k : Int) != (i : Int)) = true := by simp; omega
                    by_cases p1 : e.cl = f.cl
                    · have t1 : (e.cl == f.cl) = true := by simpa using p1
                      by_cases p2 : e.op = f.op
                      · have t2 : (e.op == f.op) = true := by simpa using p2
                        have hf2 : ¬ twoE e f := fun h => (h p1).1 p2
                        replace p1 := hid1 p1
                        replace p2 := hid1 p2
                        have hr : rb = false := by
                          cases hb : rb with
                          | false => rfl
                          | true => exact absurd ((hrb.out.1 hb).2 i k e f he.out hf.out (fun h => p0 h.symm)) hf2
                        subst hr
                        clear hf2
                        go_wp2
                        go_ret
                        exact ⟨rfl, seq_below bel.out b2.out⟩
                      · have t2 : (e.op == f.op) = false := by simpa using p2
                        by_cases p3 : e.op < f.op
                        · have t3 : decide (e.op < f.op) = true := decide_eq_true p3
                          obtain ⟨ra, hra⟩ : ∃ ra, ahB e f = ra := ⟨_, rfl⟩
                          have ca : ∀ w, Calls Try.prog 14 #[.agg #[.int .i64 e.cl, .int .i64 e.op, .int .i64 e.bg, .int .i64 e.pt, .int .i64 e.en, .bool e.bh, .int .i64 e.kd, .int .i64 e.nn, .int .u64 (e.hh : Nat), .int .u64 (e.hx : Nat), .int .u64 (e.hy : Nat), .int .i64 e.er, .int .u64 (e.ah : Nat), .bool e.ay], .agg #[.int .i64 f.cl, .int .i64 f.op, .int .i64 f.bg, .int .i64 f.pt, .int .i64 f.en, .bool f.bh, .int .i64 f.kd, .int .i64 f.nn, .int .u64 (f.hh : Nat), .int .u64 (f.hx : Nat), .int .u64 (f.hy : Nat), .int .i64 f.er, .int .u64 (f.ah : Nat), .bool f.ay]] w fun r w' => r = .returned (.bool ra) ∧ Below w.heap.size w w' := fun w => by rw [← hra]; exact rahead_any e f w
                          replace ca := hid1 ca
                          unfold ahB at hra
                          cases ra with
                          | true =>
                            have J := hid1 (fun (_ : k ≠ i) => (fun h => ⟨p2, fun _ => of_decide_eq_true hra⟩ : twoE e f))
                            replace p1 := hid1 p1
                            replace p2 := hid1 p2
                            replace hra := hid1 hra
                            go_wp2_with (go_at_call 14; with_reducible refine (ca.out _).mono ?_; rintro r w7 ⟨rfl, b7⟩)
                            go_roundg (n - (k + 1))
                            case measure => omega
                            case rel => exact ⟨k + 1, by go_num, by omega, Nat.le_refl _, hid1 (seq_below b2.out b7), hid1 (fun j f1 hj h1 h2 => by
                                by_cases q : j = k
                                · subst q
                                  rw [hf.out] at h1; obtain rfl := Option.some.inj h1
                                  exact J.out h2
                                · exact I2.out j f1 (by omega) h1 h2)⟩
                          | false =>
                            have hf2 : ¬ twoE e f := fun h => absurd ((h p1).2 p3) (of_decide_eq_false hra)
                            replace p1 := hid1 p1
                            replace p2 := hid1 p2
                            replace hra := hid1 hra
                            have hr : rb = false := by
                              cases hb : rb with
                              | false => rfl
                              | true => exact absurd ((hrb.out.1 hb).2 i k e f he.out hf.out (fun h => p0 h.symm)) hf2
                            subst hr
                            clear hf2
                            go_wp2_with (go_at_call 14; with_reducible refine (ca.out _).mono ?_; rintro r w7 ⟨rfl, b7⟩)
                            go_ret
                            exact ⟨rfl, seq_below bel.out (seq_below b2.out b7)⟩
                        · have t3 : decide (e.op < f.op) = false := decide_eq_false p3
                          have J := hid1 (fun (_ : k ≠ i) => (fun h => ⟨p2, fun h => absurd h p3⟩ : twoE e f))
                          replace p1 := hid1 p1
                          replace p2 := hid1 p2
                          go_wp2
                          go_roundg (n - (k + 1))
                          case measure => omega
                          case rel => exact ⟨k + 1, by go_num, by omega, Nat.le_refl _, b2, hid1 (fun j f1 hj h1 h2 => by
                              by_cases q : j = k
                              · subst q
                                rw [hf.out] at h1; obtain rfl := Option.some.inj h1
                                exact J.out h2
                              · exact I2.out j f1 (by omega) h1 h2)⟩
                    · have t1 : (e.cl == f.cl) = false := by simpa using p1
                      have J := hid1 (fun (_ : k ≠ i) => (fun h => absurd h p1 : twoE e f))
                      replace p1 := hid1 p1
                      go_wp2
                      go_roundg (n - (k + 1))
                      case measure => omega
                      case rel => exact ⟨k + 1, by go_num, by omega, Nat.le_refl _, b2, hid1 (fun j f1 hj h1 h2 => by
                          by_cases q : j = k
                          · subst q
                            rw [hf.out] at h1; obtain rfl := Option.some.inj h1
                            exact J.out h2
                          · exact I2.out j f1 (by omega) h1 h2)⟩
                · obtain rfl : k = n := by omega
                  have hlkz : ¬ (k : Int) < (k : Int) := by omega
                  go_wp2
                  go_roundg (k - (i + 1))
                  case measure => omega
                  case rel => exact ⟨i + 1, by go_num, by omega, Nat.le_refl _, hid1 (seq_below bel.out b2.out), hid1 (fun j e1 hj he1 => by
                    by_cases q : j = i
                    · subst q
                      rw [he.out] at he1; obtain rfl := Option.some.inj he1
                      exact ⟨hok.out, fun k f hf hk => I2.out k f (by have := (List.getElem?_eq_some_iff.1 hf).1; have := hE.out; omega) hf hk⟩
                    · exact I.out j e1 (by omega) he1)⟩
    · obtain rfl : i = n := by omega
      have hltz : ¬ (i : Int) < (i : Int) := by omega
      have hr : rb = true := hrb.out.2 ⟨fun j e he => (I.out j e (by have := (List.getElem?_eq_some_iff.1 he).1; have := hE.out; omega) he).1, fun j k e f he hf hjk => (I.out j e (by have := (List.getElem?_eq_some_iff.1 he).1; have := hE.out; omega) he).2 k f hf (Ne.symm hjk)⟩
      subst hr
      go_wp2
      go_ret
      exact ⟨rfl, bel.out⟩
end Go.Proofs.Ythihdaloonagoaa
