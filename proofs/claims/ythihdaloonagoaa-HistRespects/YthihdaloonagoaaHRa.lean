/- The document's example of layer 18. -/
import Derived.Test.YthihdaloonagoaaHQr
namespace Go.Proofs.Ythihdaloonagoaa
open Go.RowKit Go.Sort
set_option linter.unusedSimpArgs false
set_option linter.unusedVariables false

set_option maxRecDepth 100000 in
set_option maxHeartbeats 4000000 in
theorem order_any {w : World} {ad : Option Addr} {n : Nat} (cap : Nat) {E : List Ev} (hE : n = E.length) (hR : RdEv w ad E) (hn : n < 400000000) :
    Calls Try.prog 11 #[.slice ad n cap] w fun r w' => ∃ a, (r = .returned (.slice a n n)) ∧ (∃ l, IsOrd (ltN (evP E)) n l ∧ RdZ w' a (l.map fun (x : Nat) => (x : Int))) ∧ Below w.heap.size w w' := by
  have cs := hid1 (sortP_any cap hE hR hn)
  clear hR hE
  go_enter Try.func11, Try.ntmps11
  go_wp2_with (go_at_call 18; refine cs.out.mono ?_; rintro e w' ⟨a, l, rfl, O, Z, b⟩; replace O := hid1 O; replace Z := hid1 Z)
  go_ret
  exact ⟨a, rfl, ⟨l, O.out, Z.out⟩, b⟩
def exE : List Ev := [(⟨0, 0, 1, 4, 5, false, 0, 0, 0, 0, 0, 0, 0, false⟩ : Ev), (⟨1, 0, 2, 2, 3, false, 0, 0, 0, 0, 0, 0, 0, false⟩ : Ev)]
theorem exE_rd {w : World} {b : Nat} (h : w.heap[b]? = some (.cells #[.int .i64 0, .int .i64 0, .int .i64 1, .int .i64 4, .int .i64 5, .bool false, .int .i64 0, .int .i64 0, .int .u64 0, .int .u64 0, .int .u64 0, .int .i64 0, .int .u64 0, .bool false, .int .i64 1, .int .i64 0, .int .i64 2, .int .i64 2, .int .i64 3, .bool false, .int .i64 0, .int .i64 0, .int .u64 0, .int .u64 0, .int .u64 0, .int .i64 0, .int .u64 0, .bool false] 36 (0, 0))) : RdEv w (some ⟨b, 0, none⟩) exE := by
  intro i e hi
  refine ⟨b, 0, rfl, lt_of_block h, fun k hk => ?_⟩
  match i, hi with
  | 0, hi =>
    obtain rfl := Option.some.inj hi
    match k, hk with
    | 0, _ => simp [World.cell?, h, Ev.row]
    | 1, _ => simp [World.cell?, h, Ev.row]
    | 2, _ => simp [World.cell?, h, Ev.row]
    | 3, _ => simp [World.cell?, h, Ev.row]
    | 4, _ => simp [World.cell?, h, Ev.row]
    | 5, _ => simp [World.cell?, h, Ev.row]
    | 6, _ => simp [World.cell?, h, Ev.row]
    | 7, _ => simp [World.cell?, h, Ev.row]
    | 8, _ => simp [World.cell?, h, Ev.row]
    | 9, _ => simp [World.cell?, h, Ev.row]
    | 10, _ => simp [World.cell?, h, Ev.row]
    | 11, _ => simp [World.cell?, h, Ev.row]
    | 12, _ => simp [World.cell?, h, Ev.row]
    | 13, _ => simp [World.cell?, h, Ev.row]
    | k + 14, hk => omega
  | 1, hi =>
    obtain rfl := Option.some.inj hi
    match k, hk with
    | 0, _ => simp [World.cell?, h, Ev.row]
    | 1, _ => simp [World.cell?, h, Ev.row]
    | 2, _ => simp [World.cell?, h, Ev.row]
    | 3, _ => simp [World.cell?, h, Ev.row]
    | 4, _ => simp [World.cell?, h, Ev.row]
    | 5, _ => simp [World.cell?, h, Ev.row]
    | 6, _ => simp [World.cell?, h, Ev.row]
    | 7, _ => simp [World.cell?, h, Ev.row]
    | 8, _ => simp [World.cell?, h, Ev.row]
    | 9, _ => simp [World.cell?, h, Ev.row]
    | 10, _ => simp [World.cell?, h, Ev.row]
    | 11, _ => simp [World.cell?, h, Ev.row]
    | 12, _ => simp [World.cell?, h, Ev.row]
    | 13, _ => simp [World.cell?, h, Ev.row]
    | k + 14, hk => omega
  | i + 2, hi => simp [exE] at hi
theorem exO : IsOrd (ltN (evP exE)) 2 [1, 0] := ⟨by decide, by
  rw [List.pairwise_cons]
  refine ⟨fun x hx => ?_, by simp⟩
  obtain rfl := List.mem_singleton.1 hx
  decide⟩
theorem exRight : RightP exE 2 := by
  refine ⟨fun i e hi => ?_, fun i k e f hi hk hik => ?_⟩
  · match i, hi with
    | 0, hi => obtain rfl := Option.some.inj hi; decide
    | 1, hi => obtain rfl := Option.some.inj hi; decide
    | i + 2, hi => simp [exE] at hi
  · match i, k, hi, hk with
    | 0, 0, _, _ => exact absurd rfl hik
    | 1, 1, _, _ => exact absurd rfl hik
    | 0, 1, hi, hk => obtain rfl := Option.some.inj hi; obtain rfl := Option.some.inj hk; decide
    | 1, 0, hi, hk => obtain rfl := Option.some.inj hi; obtain rfl := Option.some.inj hk; decide
    | i + 2, _, hi, _ => simp [exE] at hi
    | _, k + 2, _, hk => simp [exE] at hk
theorem exResp : RespP exE [1, 0] := by
  refine ⟨rfl, fun k x hk => ?_, fun j k x y hj hk hjk => ?_, fun j k x y e f hj hk hjk he hf => ?_⟩
  · match k, hk with
    | 0, hk => obtain rfl := Option.some.inj hk; exact ⟨by decide, by decide⟩
    | 1, hk => obtain rfl := Option.some.inj hk; exact ⟨by decide, by decide⟩
    | k + 2, hk => simp at hk
  · match j, k, hj, hk with
    | 0, 1, hj, hk => obtain rfl := Option.some.inj hj; obtain rfl := Option.some.inj hk; decide
    | 0, 0, _, _ => omega
    | j + 1, 0, _, _ => omega
    | j + 1, 1, _, _ => omega
    | _, k + 2, _, hk => simp at hk
  · match j, k, hj, hk with
    | 0, 1, hj, hk =>
      obtain rfl := Option.some.inj hj
      obtain rfl := Option.some.inj hk
      obtain rfl := Option.some.inj he
      obtain rfl := Option.some.inj hf
      decide
    | 0, 0, _, _ => omega
    | j + 1, 0, _, _ => omega
    | j + 1, 1, _, _ => omega
    | _, k + 2, _, hk => simp at hk
set_option maxRecDepth 100000 in
set_option maxHeartbeats 8000000 in
theorem awake_any (w : World) : Calls Try.prog 10 #[] w fun r w' => r = .returned (.bool true) ∧ Below w.heap.size w w' := by
  have hq := new_obj w (.cells #[.int .i64 0, .int .i64 0, .int .i64 1, .int .i64 4, .int .i64 5, .bool false, .int .i64 0, .int .i64 0, .int .u64 0, .int .u64 0, .int .u64 0, .int .i64 0, .int .u64 0, .bool false, .int .i64 1, .int .i64 0, .int .i64 2, .int .i64 2, .int .i64 3, .bool false, .int .i64 0, .int .i64 0, .int .u64 0, .int .u64 0, .int .u64 0, .int .i64 0, .int .u64 0, .bool false] 36)
  have bel := alloc_below w (.cells #[.int .i64 0, .int .i64 0, .int .i64 1, .int .i64 4, .int .i64 5, .bool false, .int .i64 0, .int .i64 0, .int .u64 0, .int .u64 0, .int .u64 0, .int .i64 0, .int .u64 0, .bool false, .int .i64 1, .int .i64 0, .int .i64 2, .int .i64 2, .int .i64 3, .bool false, .int .i64 0, .int .i64 0, .int .u64 0, .int .u64 0, .int .u64 0, .int .i64 0, .int .u64 0, .bool false] 36)
  go_enter Try.func10, Try.ntmps10
  go_upto_region 2 with fail
  generalize World.alloc _ _ = w1 at *
  generalize w.heap.size = b at hq ⊢
  have hR := hid1 (exE_rd hq)
  have co := hid1 (order_any (n := 2) 2 rfl hR.out (by decide))
  clear hq
  go_upto_region 3 with (go_at_call 11; refine co.out.mono ?_; rintro r w2 ⟨a, rfl, ⟨l, O, Z⟩, b2⟩)
  obtain rfl := O.uniq (evP_swo exE) exO
  replace Z : RdZ w2 a [1, 0] := Z
  have hR2 := hR.out.below b2
  have cr : ∀ w', Below w2.heap.size w2 w' → Calls Try.prog 15 #[.slice (some ⟨b, 0, none⟩) 2 2, .slice a 2 2] w' fun r w'' => r = .returned (.bool true) ∧ Below w2.heap.size w2 w'' := fun w' hw' =>
    (hresp_any (n := 2) (m := 2) 2 2 rfl (hR2.below hw') (by decide) (by decide) rfl (Z.below hw')).mono fun r w'' ⟨rb, h1, h2, h3⟩ => ⟨by rw [h1, h2.2 exResp], seq_below hw' h3⟩
  have cg : ∀ w', Below w2.heap.size w2 w' → Calls Try.prog 8 #[.slice (some ⟨b, 0, none⟩) 2 2, .int .i64 2] w' fun r w'' => r = .returned (.bool true) ∧ Below w2.heap.size w2 w'' := fun w' hw' =>
    (hright_any (n := 2) 2 rfl (hR2.below hw') (by decide) 2).mono fun r w'' ⟨rb, h1, h2, h3⟩ => ⟨by rw [h1, h2.2 exRight], seq_below hw' h3⟩
  have ca : ∀ w', Below w2.heap.size w2 w' → Calls Try.prog 13 #[.agg #[.int .i64 0, .int .i64 0, .int .i64 1, .int .i64 4, .int .i64 5, .bool false, .int .i64 0, .int .i64 0, .int .u64 0, .int .u64 0, .int .u64 0, .int .i64 0, .int .u64 0, .bool false], .agg #[.int .i64 1, .int .i64 0, .int .i64 2, .int .i64 2, .int .i64 3, .bool false, .int .i64 0, .int .i64 0, .int .u64 0, .int .u64 0, .int .u64 0, .int .i64 0, .int .u64 0, .bool false]] w' fun r w'' => r = .returned (.bool false) ∧ Below w2.heap.size w2 w'' := fun w' hw' =>
    (ahead_any (⟨0, 0, 1, 4, 5, false, 0, 0, 0, 0, 0, 0, 0, false⟩ : Ev) (⟨1, 0, 2, 2, 3, false, 0, 0, 0, 0, 0, 0, 0, false⟩ : Ev) w').mono fun r w'' ⟨h1, h3⟩ => ⟨h1, seq_below hw' h3⟩
  have cb : ∀ w', Below w2.heap.size w2 w' → Calls Try.prog 13 #[.agg #[.int .i64 1, .int .i64 0, .int .i64 2, .int .i64 2, .int .i64 3, .bool false, .int .i64 0, .int .i64 0, .int .u64 0, .int .u64 0, .int .u64 0, .int .i64 0, .int .u64 0, .bool false], .agg #[.int .i64 0, .int .i64 0, .int .i64 1, .int .i64 4, .int .i64 5, .bool false, .int .i64 0, .int .i64 0, .int .u64 0, .int .u64 0, .int .u64 0, .int .i64 0, .int .u64 0, .bool false]] w' fun r w'' => r = .returned (.bool false) ∧ Below w2.heap.size w2 w'' := fun w' hw' =>
    (ahead_any (⟨1, 0, 2, 2, 3, false, 0, 0, 0, 0, 0, 0, 0, false⟩ : Ev) (⟨0, 0, 1, 4, 5, false, 0, 0, 0, 0, 0, 0, 0, false⟩ : Ev) w').mono fun r w'' ⟨h1, h3⟩ => ⟨h1, seq_below hw' h3⟩
  obtain ⟨bZ, oZ, ha, hbZ, hz0⟩ := Z.at (i := 0) (x := 1) rfl
  subst ha
  obtain ⟨bZ', oZ', ha, hbZ', hz1⟩ := Z.at (i := 1) (x := 0) rfl
  simp only [Option.some.injEq, Addr.mk.injEq] at ha
  obtain ⟨rfl, rfl, -⟩ := ha
  obtain ⟨bE, oE, ha, hbE, he0⟩ := hR2.at (i := 0) (e := (⟨0, 0, 1, 4, 5, false, 0, 0, 0, 0, 0, 0, 0, false⟩ : Ev)) rfl
  simp only [Option.some.injEq, Addr.mk.injEq] at ha
  obtain ⟨rfl, rfl, -⟩ := ha
  obtain ⟨bE, oE, ha, hbE, he1⟩ := hR2.at (i := 1) (e := (⟨1, 0, 2, 2, 3, false, 0, 0, 0, 0, 0, 0, 0, false⟩ : Ev)) rfl
  simp only [Option.some.injEq, Addr.mk.injEq] at ha
  obtain ⟨rfl, rfl, -⟩ := ha
  simp only [Nat.add_zero, Nat.zero_mul, Nat.zero_add, Nat.one_mul] at hz0 he0 he1
  replace bel := hid1 (seq_below bel b2)
  replace hz0 := hid1 hz0
  replace hz1 := hid1 hz1
  replace he0 := hid1 he0
  replace he1 := hid1 he1
  clear hR2 Z O hbE hbZ hbZ' co hR b2
  refine region_below (by kernel_rfl) (by kernel_rfl) ?_
  repeat (first | go_big_quiet_skip | (go_big_quiet_want; go_big_quiet_op; first | go_big_quiet_on | (refine ⟨_, fun _ _ => rfl, ?_⟩; go_big_quiet_on) | (refine ⟨.int .i64 1, ?_, ?_⟩; (focus (intro w' hw'; have l := hz0.out w' hw'; simp [l, Result.andThen]; done)); go_big_quiet_on) | (refine ⟨.int .i64 0, ?_, ?_⟩; (focus (intro w' hw'; have l := hz1.out w' hw'; simp [l, Result.andThen]; done)); go_big_quiet_on) | (refine ⟨.agg #[.int .i64 0, .int .i64 0, .int .i64 1, .int .i64 4, .int .i64 5, .bool false, .int .i64 0, .int .i64 0, .int .u64 0, .int .u64 0, .int .u64 0, .int .i64 0, .int .u64 0, .bool false], ?_, ?_⟩; (focus (intro w' hw'; obtain ⟨l0, l1, l2, l3, l4, l5, l6, l7, l8, l9, l10, l11, l12, l13⟩ := he0.out w' hw'; simp [l0, l1, l2, l3, l4, l5, l6, l7, l8, l9, l10, l11, l12, l13, Result.andThen]; done)); go_big_quiet_on) | (refine ⟨.agg #[.int .i64 1, .int .i64 0, .int .i64 2, .int .i64 2, .int .i64 3, .bool false, .int .i64 0, .int .i64 0, .int .u64 0, .int .u64 0, .int .u64 0, .int .i64 0, .int .u64 0, .bool false], ?_, ?_⟩; (focus (intro w' hw'; obtain ⟨l0, l1, l2, l3, l4, l5, l6, l7, l8, l9, l10, l11, l12, l13⟩ := he1.out w' hw'; simp [l0, l1, l2, l3, l4, l5, l6, l7, l8, l9, l10, l11, l12, l13, Result.andThen]; done)); go_big_quiet_on) | (with_reducible refine ⟨_, cr, ?_⟩; go_big_quiet_on) | (with_reducible refine ⟨_, cg, ?_⟩; go_big_quiet_on) | (with_reducible refine ⟨_, ca, ?_⟩; go_big_quiet_on) | (with_reducible refine ⟨_, cb, ?_⟩; go_big_quiet_on)))
  refine wpQuiet_nil ?_
  intro w8 hb8
  go_wp2
  go_ret
  exact ⟨rfl, seq_below bel.out hb8⟩
end Go.Proofs.Ythihdaloonagoaa
