/- Layer 18: HistOrders, HistRespects. -/
import Derived.Test.YthihdaloonagoaaHSa
namespace Go.Proofs.Ythihdaloonagoaa
open Go.RowKit Go.Sort
set_option linter.unusedSimpArgs false
set_option linter.unusedVariables false

theorem rorder_at {w : World} {ad : Option Addr} {n : Nat} (cap : Nat) {E : List Ev} (hE : n = E.length) (hR : RdEv w ad E) (hn : n < 400000000) {w' : World} (b : Below w.heap.size w w') :
    Calls Try.prog 12 #[.slice ad n cap] w' fun r w'' => ∃ a cp, r = .returned (.slice a n cp) ∧ Hid (∃ l, IsOrd (ltN (evP E)) n l ∧ RdZ w'' a (l.map fun (x : Nat) => (x : Int))) ∧ Hid (Below w'.heap.size w' w'') ∧ Below w.heap.size w w'' :=
  (rorder_any cap hE (hR.below b) hn).mono fun r w'' ⟨a, ⟨cp, h1⟩, h2, h3⟩ => ⟨a, cp, h1, h2, h3, seq_below b h3⟩
set_option maxRecDepth 100000 in
set_option maxHeartbeats 4000000 in
theorem orders_law {w : World} {ad : Option Addr} {n : Nat} (cap : Nat) {E : List Ev} (hE : n = E.length) (hR : RdEv w ad E) : Calls Try.prog 4 #[.slice ad n cap] w fun r w' => r = .returned (.bool true) ∧ Below w.heap.size w w' := by
  have B0 := Below.refl w.heap.size w
  by_cases hn : 60 < n
  · have hnz : (60 : Int) < (n : Int) := by omega
    clear hE
    go_enter Try.func4, Try.ntmps4
    go_wp2_with (go_at_call 10; with_reducible refine (awake_at B0).mono ?_; rintro r w1 ⟨rfl, b⟩; replace B0 := b; clear b)
    go_ret
    exact ⟨rfl, B0⟩
  · have hnz : ¬ (60 : Int) < (n : Int) := by omega
    have hnb : n ≤ 60 := by omega
    have c1 := hid1 (fun w' (b : Below w.heap.size w w') => order_at cap hE hR (by omega) b)
    have c2 := hid1 (fun w' (b : Below w.heap.size w w') => rorder_at cap hE hR (by omega) b)
    clear hE
    go_enter Try.func4, Try.ntmps4
    go_upto_region 6 with (first | (go_at_call 11; with_reducible refine (c1.out _ B0).mono ?_; rintro r w1 ⟨a, rfl, hO, b⟩; replace B0 := b; clear b) | (go_at_call 12; with_reducible refine (c2.out _ B0).mono ?_; rintro r w2 ⟨a2, cp2, rfl, hO2, b2, b⟩; replace B0 := b; clear b))
    obtain ⟨l, O, Z⟩ := hO.out
    obtain ⟨l2, O2, Z2⟩ := hO2.out
    obtain rfl := O.uniq (evP_swo E) O2
    have Z1 := hid1 (Z.below b2.out)
    have hl := hid1 O.len
    replace Z2 := hid1 Z2
    have B1 := hid1 B0
    clear hO hO2 O O2 Z b2 B0 c1 c2
    go_wp2
    go_loopg [5] n (fun g1 vi wr => ∃ (i : Nat), vi = .int .i64 i ∧ i ≤ n ∧ n - i ≤ g1 ∧ Hid (Below w2.heap.size w2 wr))
    case atStart => exact ⟨0, by go_num, Nat.zero_le _, by omega, hid1 (Below.refl _ _)⟩
    case round =>
      obtain ⟨i, rfl, hi, hg1, b3⟩ := hrel
      by_cases hlt : i < n
      · have hltz : (i : Int) < (n : Int) := by omega
        obtain ⟨x, hx⟩ : ∃ x, l[i]? = some x := ⟨_, List.getElem?_eq_getElem (by have := hl.out; omega)⟩
        have hx2 : (l.map fun (x : Nat) => (x : Int))[i]? = some (x : Int) := by rw [List.getElem?_map, hx]; rfl
        obtain ⟨bA, oA, ha, hbA, hz1⟩ := Z1.out.at hx2
        subst ha
        obtain ⟨bB, oB, ha, hbB, hz2⟩ := Z2.out.at hx2
        subst ha
        have k1 := hid1 (fun w' (b : Below wr.heap.size wr w') => hz1 w' (seq_below b3.out b))
        have k2 := hid1 (fun w' (b : Below wr.heap.size wr w') => hz2 w' (seq_below b3.out b))
        clear hx hx2 hz1 hz2 hbA hbB
        have hne : ((x : Int) != (x : Int)) = false := by simp
        go_upto_region 9 with fail
        refine region_below (by kernel_rfl) (by kernel_rfl) ?_
        repeat (first | go_big_quiet_skip | (go_big_quiet_want; go_big_quiet_op; first | go_big_quiet_on | (refine ⟨_, fun _ _ => rfl, ?_⟩; go_big_quiet_on) | (refine ⟨.int .i64 (x : Int), ?_, ?_⟩; (focus (intro w' hw'; have l1 := k1.out w' hw'; have l2 := k2.out w' hw'; simp [l1, l2, Result.andThen]; done)); go_big_quiet_on)))
        refine wpQuiet_nil ?_
        intro w8 hb8
        replace hb8 := hid1 hb8
        go_wp2
        go_roundg (n - (i + 1))
        case measure => omega
        case rel => exact ⟨i + 1, by go_num, by omega, Nat.le_refl _, hid1 (seq_below b3.out hb8.out)⟩
      · obtain rfl : i = n := by omega
        have hltz : ¬ (i : Int) < (i : Int) := by omega
        have B2 := seq_below B1.out b3.out
        go_wp2_with (go_at_call 10; with_reducible refine (awake_at B2).mono ?_; rintro r w1 ⟨rfl, b⟩; replace B2 := b; clear b)
        go_ret
        exact ⟨rfl, B2⟩
theorem ahead_two (e f : Ev) (h : True) : ahB e f = ahB e f := rfl
set_option maxRecDepth 100000 in
set_option maxHeartbeats 8000000 in
theorem respects_law {w : World} {ad ao : Option Addr} {n m : Nat} (cap capo : Nat) {E : List Ev} (hE : n = E.length) (hR : RdEv w ad E) (hW : ∀ e ∈ E, -9223372036854775808 ≤ e.en) {O : List Int} (hO : m = O.length) (hZ : RdZ w ao O) : Calls Try.prog 5 #[.slice ad n cap, .slice ao m capo] w fun r w' => r = .returned (.bool true) ∧ Below w.heap.size w w' := by
  have B0 := Below.refl w.heap.size w
  by_cases hn : 60 < n
  · have hnd : decide ((60 : Int) < (n : Int)) = true := decide_eq_true (by omega)
    clear hE hW hO
    go_enter Try.func5, Try.ntmps5
    go_wp2_with (go_at_call 10; with_reducible refine (awake_at B0).mono ?_; rintro r w1 ⟨rfl, b⟩; replace B0 := b; clear b)
    go_ret
    exact ⟨rfl, B0⟩
  · have hnd : decide ((60 : Int) < (n : Int)) = false := decide_eq_false (by omega)
    by_cases hm : 60 < m
    · have hmd : decide ((60 : Int) < (m : Int)) = true := decide_eq_true (by omega)
      clear hE hW hO
      go_enter Try.func5, Try.ntmps5
      go_wp2_with (go_at_call 10; with_reducible refine (awake_at B0).mono ?_; rintro r w1 ⟨rfl, b⟩; replace B0 := b; clear b)
      go_ret
      exact ⟨rfl, B0⟩
    · have hmd : decide ((60 : Int) < (m : Int)) = false := decide_eq_false (by omega)
      obtain ⟨rb, hrb⟩ := is_bool (RespP E O)
      have c1 := hid1 (fun w' (b : Below w.heap.size w w') => resp_at cap capo hE hR (by omega) hW hO hZ hrb b)
      have c2 := hid1 (fun w' (b : Below w.heap.size w w') => rresp_at cap capo hE hR (by omega) hO hZ hrb b)
      clear hrb hW hO hZ
      by_cases h2 : n < 2
      · have h2d : decide ((n : Int) < 2) = true := decide_eq_true (by omega)
        clear hE
        go_enter Try.func5, Try.ntmps5
        go_upto_region 3 with fail
        refine region_below (by kernel_rfl) (by kernel_rfl) ?_
        repeat (first | go_big_quiet_skip | (go_big_quiet_want; go_big_quiet_op; first | go_big_quiet_on | (refine ⟨_, fun _ _ => rfl, ?_⟩; go_big_quiet_on)))
        refine wpQuiet_nil ?_
        intro w8 hb8
        go_wp2_with (first | (go_at_call 15; with_reducible refine (c1.out _ hb8).mono ?_; rintro r w1 ⟨rfl, b⟩; replace hb8 := b; clear b) | (go_at_call 16; with_reducible refine (c2.out _ hb8).mono ?_; rintro r w1 ⟨rfl, b⟩; replace hb8 := b; clear b) | (go_at_call 10; with_reducible refine (awake_at hb8).mono ?_; rintro r w1 ⟨rfl, b⟩; replace hb8 := b; clear b))
        go_ret
        exact ⟨rfl, hb8⟩
      · have h2d : decide ((n : Int) < 2) = false := decide_eq_false (by omega)
        have h0z : (0 : Int) < (n : Int) := by omega
        have h1z : (1 : Int) < (n : Int) := by omega
        obtain ⟨e, he⟩ : ∃ e, E[0]? = some e := ⟨_, List.getElem?_eq_getElem (by omega)⟩
        obtain ⟨f, hf⟩ : ∃ e, E[1]? = some e := ⟨_, List.getElem?_eq_getElem (by omega)⟩
        obtain ⟨bE, oE, ha, hbE, hce⟩ := hR.at he
        subst ha
        obtain ⟨bE', oE', ha, hbE', hcf⟩ := hR.at hf
        simp only [Option.some.injEq, Addr.mk.injEq] at ha
        obtain ⟨rfl, rfl, -⟩ := ha
        simp only [Nat.zero_mul, Nat.one_mul, Nat.add_zero] at hce hcf
        obtain ⟨ra, hra⟩ : ∃ ra, ahB e f = ra := ⟨_, rfl⟩
        have ca : ∀ w', Below w.heap.size w w' → Calls Try.prog 13 #[.agg #[.int .i64 e.cl, .int .i64 e.op, .int .i64 e.bg, .int .i64 e.pt, .int .i64 e.en, .bool e.bh, .int .i64 e.kd, .int .i64 e.nn, .int .u64 (e.hh : Nat), .int .u64 (e.hx : Nat), .int .u64 (e.hy : Nat), .int .i64 e.er, .int .u64 (e.ah : Nat), .bool e.ay], .agg #[.int .i64 f.cl, .int .i64 f.op, .int .i64 f.bg, .int .i64 f.pt, .int .i64 f.en, .bool f.bh, .int .i64 f.kd, .int .i64 f.nn, .int .u64 (f.hh : Nat), .int .u64 (f.hx : Nat), .int .u64 (f.hy : Nat), .int .i64 f.er, .int .u64 (f.ah : Nat), .bool f.ay]] w' fun r w'' => r = .returned (.bool ra) ∧ Below w.heap.size w w'' := fun w' hw' => (ahead_any e f w').mono fun r w'' ⟨h1, h3⟩ => ⟨by rw [h1, hra], seq_below hw' h3⟩
        have cb : ∀ w', Below w.heap.size w w' → Calls Try.prog 14 #[.agg #[.int .i64 e.cl, .int .i64 e.op, .int .i64 e.bg, .int .i64 e.pt, .int .i64 e.en, .bool e.bh, .int .i64 e.kd, .int .i64 e.nn, .int .u64 (e.hh : Nat), .int .u64 (e.hx : Nat), .int .u64 (e.hy : Nat), .int .i64 e.er, .int .u64 (e.ah : Nat), .bool e.ay], .agg #[.int .i64 f.cl, .int .i64 f.op, .int .i64 f.bg, .int .i64 f.pt, .int .i64 f.en, .bool f.bh, .int .i64 f.kd, .int .i64 f.nn, .int .u64 (f.hh : Nat), .int .u64 (f.hx : Nat), .int .u64 (f.hy : Nat), .int .i64 f.er, .int .u64 (f.ah : Nat), .bool f.ay]] w' fun r w'' => r = .returned (.bool ra) ∧ Below w.heap.size w w'' := fun w' hw' => (rahead_any e f w').mono fun r w'' ⟨h1, h3⟩ => ⟨by rw [h1, hra], seq_below hw' h3⟩
        replace hce := hid1 hce
        replace hcf := hid1 hcf
        have hee : (ra == ra) = true := by simp
        clear hE he hf hra hbE hbE'
        go_enter Try.func5, Try.ntmps5
        go_upto_region 3 with fail
        refine region_below (by kernel_rfl) (by kernel_rfl) ?_
        repeat (first | go_big_quiet_skip | (go_big_quiet_want; go_big_quiet_op; first | go_big_quiet_on | (refine ⟨_, fun _ _ => rfl, ?_⟩; go_big_quiet_on) | (refine ⟨.agg #[.int .i64 e.cl, .int .i64 e.op, .int .i64 e.bg, .int .i64 e.pt, .int .i64 e.en, .bool e.bh, .int .i64 e.kd, .int .i64 e.nn, .int .u64 (e.hh : Nat), .int .u64 (e.hx : Nat), .int .u64 (e.hy : Nat), .int .i64 e.er, .int .u64 (e.ah : Nat), .bool e.ay], ?_, ?_⟩; (focus (intro w' hw'; obtain ⟨l0, l1, l2, l3, l4, l5, l6, l7, l8, l9, l10, l11, l12, l13⟩ := hce.out w' hw'; simp [l0, l1, l2, l3, l4, l5, l6, l7, l8, l9, l10, l11, l12, l13, Result.andThen]; done)); go_big_quiet_on) | (refine ⟨.agg #[.int .i64 f.cl, .int .i64 f.op, .int .i64 f.bg, .int .i64 f.pt, .int .i64 f.en, .bool f.bh, .int .i64 f.kd, .int .i64 f.nn, .int .u64 (f.hh : Nat), .int .u64 (f.hx : Nat), .int .u64 (f.hy : Nat), .int .i64 f.er, .int .u64 (f.ah : Nat), .bool f.ay], ?_, ?_⟩; (focus (intro w' hw'; obtain ⟨l0, l1, l2, l3, l4, l5, l6, l7, l8, l9, l10, l11, l12, l13⟩ := hcf.out w' hw'; simp [l0, l1, l2, l3, l4, l5, l6, l7, l8, l9, l10, l11, l12, l13, Result.andThen]; done)); go_big_quiet_on) | (with_reducible refine ⟨_, ca, ?_⟩; go_big_quiet_on) | (with_reducible refine ⟨_, cb, ?_⟩; go_big_quiet_on)))
        refine wpQuiet_nil ?_
        intro w8 hb8
        go_wp2_with (first | (go_at_call 15; with_reducible refine (c1.out _ hb8).mono ?_; rintro r w1 ⟨rfl, b⟩; replace hb8 := b; clear b) | (go_at_call 16; with_reducible refine (c2.out _ hb8).mono ?_; rintro r w1 ⟨rfl, b⟩; replace hb8 := b; clear b) | (go_at_call 10; with_reducible refine (awake_at hb8).mono ?_; rintro r w1 ⟨rfl, b⟩; replace hb8 := b; clear b))
        go_ret
        exact ⟨rfl, hb8⟩
end Go.Proofs.Ythihdaloonagoaa
