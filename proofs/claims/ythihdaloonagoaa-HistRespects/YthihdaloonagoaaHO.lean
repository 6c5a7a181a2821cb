/- hist.Respects. -/
import Derived.Test.YthihdaloonagoaaHN
namespace Go.Proofs.Ythihdaloonagoaa
open Go.RowKit Go.Sort
set_option linter.unusedSimpArgs false
set_option linter.unusedVariables false

/-- The event that began last among the first k. -/
structure LstK (E : List Ev) (O : List Int) (k : Nat) (la : Ev) : Prop where
  up : ∀ (j : Nat) (y : Int) (e : Ev), j < k → O[j]? = some y → E[y.toNat]? = some e → e.bg ≤ la.bg
  is : la.bg = -9223372036854775808 ∨ ∃ (j : Nat) (y : Int) (e : Ev), j < k ∧ O[j]? = some y ∧ E[y.toNat]? = some e ∧ e.bg = la.bg
theorem LstK.stay {E : List Ev} {O : List Int} {k : Nat} {la f : Ev} {x : Int} (h : LstK E O k la) (hx : O[k]? = some x) (hf : E[x.toNat]? = some f) (hl : f.bg ≤ la.bg) : LstK E O (k + 1) la := by
  refine ⟨fun j y e hj hy he => ?_, ?_⟩
  · by_cases q : j = k
    · subst q
      rw [hx] at hy; obtain rfl := Option.some.inj hy
      rw [hf] at he; obtain rfl := Option.some.inj he
      exact hl
    · exact h.up j y e (by omega) hy he
  · rcases h.is with h | ⟨j, y, e, hj, r⟩
    · exact .inl h
    · exact .inr ⟨j, y, e, by omega, r⟩
theorem LstK.turn {E : List Ev} {O : List Int} {k : Nat} {la f : Ev} {x : Int} (h : LstK E O k la) (hx : O[k]? = some x) (hf : E[x.toNat]? = some f) (hl : la.bg < f.bg) : LstK E O (k + 1) f := by
  refine ⟨fun j y e hj hy he => ?_, .inr ⟨k, x, f, by omega, hx, hf, rfl⟩⟩
  by_cases q : j = k
  · subst q
    rw [hx] at hy; obtain rfl := Option.some.inj hy
    rw [hf] at he; obtain rfl := Option.some.inj he
    exact Int.le_refl _
  · have := h.up j y e (by omega) hy he
    omega
set_option maxRecDepth 100000 in
set_option maxHeartbeats 16000000 in
theorem hresp_any {w : World} {ad ao : Option Addr} {n m : Nat} (cap capo : Nat) {E : List Ev} (hE : n = E.length) (hR : RdEv w ad E) (hn : n < 400000000) (hW : ∀ e ∈ E, -9223372036854775808 ≤ e.en) {O : List Int} (hO : m = O.length) (hZ : RdZ w ao O) :
    Calls Try.prog 15 #[.slice ad n cap, .slice ao m capo] w fun r w' => ∃ b : Bool, r = .returned (.bool b) ∧ (b = true ↔ RespP E O) ∧ Below w.heap.size w w' := by
  obtain ⟨rb, hrb⟩ := is_bool (RespP E O)
  refine Calls.mono (P := Try.prog) ?_ (fun (r : Ending) w' (h : r = .returned (.bool rb) ∧ Below w.heap.size w w') => ⟨rb, h.1, hrb, h.2⟩)
  replace hrb := hid1 hrb
  have hR := hid1 hR
  replace hZ := hid1 hZ
  replace hW := hid1 hW
  have hmk : ∀ wr, (Instr.makeSlice 43 (.int .i64 (n : Nat)) (.int .i64 (n : Nat))).run Try.prog wr = .ok (.slice (some ⟨wr.heap.size, 0, none⟩) n n) (wr.alloc (.cells (bolA n fun _ => false) 4)) := fun wr => by
    rw [← bolA_made]
    exact run_make_row' 43 4 (.bool false) 1 Try.underlying43 Try.info4' rfl .i64 .i64 n (by omega) (by omega) wr
  by_cases hmn : m = n
  · have hne : ((m : Int) != (n : Int)) = false := by simp; omega
    have hg := new_obj w (.cells (bolA n fun _ => false) 4)
    have bG := alloc_below w (.cells (bolA n fun _ => false) 4)
    have z1 : (w.alloc (.cells (bolA n fun _ => false) 4)).heap.size = w.heap.size + 1 := by simp
    replace hE := hid1 hE
    replace hO := hid1 hO
    have hmb : m < 400000000 := by omega
    replace hmn := hid1 hmn
    go_enter Try.func15, Try.ntmps15
    go_upto_region 4 with fail
    generalize World.alloc _ _ = w1 at *
    have hl := new_obj w1 (.cells #[.int .i64 0, .int .i64 0, .int .i64 (-9223372036854775808), .int .i64 0, .int .i64 0, .bool false, .int .i64 0, .int .i64 0, .int .u64 0, .int .u64 0, .int .u64 0, .int .i64 0, .int .u64 0, .bool false] 36)
    have bL := alloc_below w1 (.cells #[.int .i64 0, .int .i64 0, .int .i64 (-9223372036854775808), .int .i64 0, .int .i64 0, .bool false, .int .i64 0, .int .i64 0, .int .u64 0, .int .u64 0, .int .u64 0, .int .i64 0, .int .u64 0, .bool false] 36)
    replace hg := (bL.block _ (lt_of_block hg)).trans hg
    replace bG := seq_below bG bL
    rw [z1] at hl
    clear bL
    go_upto_region 5 with fail
    generalize World.alloc _ _ = w2 at *
    obtain ⟨g, hgs⟩ : ∃ g, w.heap.size = g := ⟨_, rfl⟩
    have hgw := hid1 (show w.heap.size ≤ g by omega)
    rw [hgs] at hg hl ⊢
    obtain ⟨bl, hbl⟩ : ∃ b, g + 1 = b := ⟨_, rfl⟩
    rw [hbl] at hl ⊢
    replace hbl := hid1 hbl
    clear hgs hmk z1
    have I0 := hid1 (And.intro hg (And.intro (show w2.heap[bl]? = some (.cells #[.int .i64 (⟨0, 0, -9223372036854775808, 0, 0, false, 0, 0, 0, 0, 0, 0, 0, false⟩ : Ev).cl, .int .i64 (⟨0, 0, -9223372036854775808, 0, 0, false, 0, 0, 0, 0, 0, 0, 0, false⟩ : Ev).op, .int .i64 (⟨0, 0, -9223372036854775808, 0, 0, false, 0, 0, 0, 0, 0, 0, 0, false⟩ : Ev).bg, .int .i64 (⟨0, 0, -9223372036854775808, 0, 0, false, 0, 0, 0, 0, 0, 0, 0, false⟩ : Ev).pt, .int .i64 (⟨0, 0, -9223372036854775808, 0, 0, false, 0, 0, 0, 0, 0, 0, 0, false⟩ : Ev).en, .bool (⟨0, 0, -9223372036854775808, 0, 0, false, 0, 0, 0, 0, 0, 0, 0, false⟩ : Ev).bh, .int .i64 (⟨0, 0, -9223372036854775808, 0, 0, false, 0, 0, 0, 0, 0, 0, 0, false⟩ : Ev).kd, .int .i64 (⟨0, 0, -9223372036854775808, 0, 0, false, 0, 0, 0, 0, 0, 0, 0, false⟩ : Ev).nn, .int .u64 ((⟨0, 0, -9223372036854775808, 0, 0, false, 0, 0, 0, 0, 0, 0, 0, false⟩ : Ev).hh : Nat), .int .u64 ((⟨0, 0, -9223372036854775808, 0, 0, false, 0, 0, 0, 0, 0, 0, 0, false⟩ : Ev).hx : Nat), .int .u64 ((⟨0, 0, -9223372036854775808, 0, 0, false, 0, 0, 0, 0, 0, 0, 0, false⟩ : Ev).hy : Nat), .int .i64 (⟨0, 0, -9223372036854775808, 0, 0, false, 0, 0, 0, 0, 0, 0, 0, false⟩ : Ev).er, .int .u64 ((⟨0, 0, -9223372036854775808, 0, 0, false, 0, 0, 0, 0, 0, 0, 0, false⟩ : Ev).ah : Nat), .bool (⟨0, 0, -9223372036854775808, 0, 0, false, 0, 0, 0, 0, 0, 0, 0, false⟩ : Ev).ay] 36 (0, 0)) from hl) bG))
    clear hg bG hl
    go_wp2
    go_loopg [8, 20] m (fun g1 _ vi wr => ∃ (k : Nat) (p : Nat → Bool) (la : Ev), vi = .int .i64 k ∧ k ≤ m ∧ m - k ≤ g1 ∧ Hid (wr.heap[g]? = some (.cells (bolA n p) 4 (0, 0)) ∧ wr.heap[bl]? = some (.cells #[.int .i64 la.cl, .int .i64 la.op, .int .i64 la.bg, .int .i64 la.pt, .int .i64 la.en, .bool la.bh, .int .i64 la.kd, .int .i64 la.nn, .int .u64 (la.hh : Nat), .int .u64 (la.hx : Nat), .int .u64 (la.hy : Nat), .int .i64 la.er, .int .u64 (la.ah : Nat), .bool la.ay] 36 (0, 0)) ∧ Below w.heap.size w wr) ∧ Hid (Met O k p ∧ RsK E O k ∧ LstK E O k la))
    case atStart => exact ⟨0, fun _ => false, ⟨0, 0, -9223372036854775808, 0, 0, false, 0, 0, 0, 0, 0, 0, 0, false⟩, by go_num, Nat.zero_le _, by omega, I0, hid1 ⟨Met.start O, RsK.start E O, ⟨fun j y e h => by omega, .inl rfl⟩⟩⟩
    case round =>
      clear I0
      obtain ⟨k, p, la, rfl, hk, hg1, I, J⟩ := hrel
      by_cases hlt : k < m
      · have hltz : (k : Int) < (m : Int) := by omega
        obtain ⟨i, hi⟩ : ∃ x, O[k]? = some x := ⟨_, List.getElem?_eq_getElem (by have := hO.out; omega)⟩
        obtain ⟨bZ, oZ, ha, hb, hz⟩ := hZ.out.at hi
        subst ha
        have z0 := hz _ I.out.2.2
        clear hz hb
        replace hi := hid1 hi
        have stop1 : ¬ (0 ≤ i ∧ i < E.length) → rb = false := fun h => by
          cases hb : rb with
          | false => rfl
          | true => exact absurd ((hrb.out.1 hb).2.1 k i hi.out) h
        replace stop1 := hid1 stop1
        by_cases h1 : i < 0
        · have d1 : decide (i < 0) = true := decide_eq_true h1
          obtain rfl := stop1.out (by omega)
          go_upto_region 8 with fail
          refine region_below (by kernel_rfl) (by kernel_rfl) ?_
          repeat (first | go_big_quiet_skip | (go_big_quiet_want; go_big_quiet_op; first | go_big_quiet_on | (refine ⟨_, fun _ _ => rfl, ?_⟩; go_big_quiet_on)))
          refine wpQuiet_nil ?_
          intro w8 hb8
          go_wp2
          go_ret
          exact ⟨rfl, seq_below I.out.2.2 hb8⟩
        · have d1 : decide (i < 0) = false := decide_eq_false h1
          obtain ⟨x, hx⟩ : ∃ x : Nat, i = (x : Int) := ⟨i.toNat, by omega⟩
          subst hx
          by_cases h2 : (n : Int) ≤ (x : Int)
          · have d2 : decide ((n : Int) ≤ (x : Int)) = true := decide_eq_true h2
            obtain rfl := stop1.out (by have := hE.out; omega)
            go_upto_region 8 with fail
            refine region_below (by kernel_rfl) (by kernel_rfl) ?_
            repeat (first | go_big_quiet_skip | (go_big_quiet_want; go_big_quiet_op; first | go_big_quiet_on | (refine ⟨_, fun _ _ => rfl, ?_⟩; go_big_quiet_on)))
            refine wpQuiet_nil ?_
            intro w8 hb8
            go_wp2
            go_ret
            exact ⟨rfl, seq_below I.out.2.2 hb8⟩
          · have d2 : decide ((n : Int) ≤ (x : Int)) = false := decide_eq_false h2
            have hxn : x < n := by omega
            have hxz : (x : Int) < (n : Int) := by omega
            have k0 := hid1 (fun w' (b : Below wr.heap.size wr w') => (by
              have e := (b.block _ (lt_of_block I.out.1)).trans I.out.1
              simp only [World.cell?, e]
              show (bolA n p)[x]? = _
              rw [bolA_at, if_pos hxn] : w'.cell? ⟨g, x, none⟩ = some (.bool (p x))))
            have ngl : g ≠ bl := by have := hbl.out; omega
            cases hp : p x with
            | true =>
              rw [hp] at k0
              have hr : rb = false := by
                cases hb : rb with
                | false => rfl
                | true =>
                  obtain ⟨j, hj, e⟩ := (J.out.1 x).1 hp
                  exact absurd rfl ((hrb.out.1 hb).2.2.1 j k _ _ e hi.out hj)
              subst hr
              go_upto_region 8 with fail
              refine region_below (by kernel_rfl) (by kernel_rfl) ?_
              repeat (first | go_big_quiet_skip | (go_big_quiet_want; go_big_quiet_op; first | go_big_quiet_on | (refine ⟨_, fun _ _ => rfl, ?_⟩; go_big_quiet_on) | (refine ⟨.bool true, ?_, ?_⟩; (focus (intro w' hw'; have l := k0.out w' hw'; simp [l, Result.andThen]; done)); go_big_quiet_on)))
              refine wpQuiet_nil ?_
              intro w8 hb8
              go_wp2
              go_ret
              exact ⟨rfl, seq_below I.out.2.2 hb8⟩
            | false =>
              rw [hp] at k0
              obtain ⟨f, hf⟩ : ∃ e, E[x]? = some e := ⟨_, List.getElem?_eq_getElem (by have := hE.out; omega)⟩
              have hnm : ∀ (j : Nat) (y : Int), j < k → O[j]? = some y → y ≠ (x : Int) := fun j y hj hy e => by
                subst e
                have := (J.out.1 x).2 ⟨j, hj, hy⟩
                rw [hp] at this; cases this
              replace hnm := hid1 hnm
              obtain ⟨bE, oE, ha, hbE, hcf⟩ := hR.out.at hf
              subst ha
              have k1 := hid1 (fun w' (b : Below wr.heap.size wr w') => hcf w' (seq_below I.out.2.2 b))
              have k2 := hid1 (fun w' (b : Below wr.heap.size wr w') => (by
                have e := (b.block _ (lt_of_block I.out.2.1)).trans I.out.2.1
                simp [World.cell?, e] : w'.cell? ⟨bl, 0, none⟩ = some (.int .i64 la.cl) ∧ w'.cell? ⟨bl, 1, none⟩ = some (.int .i64 la.op) ∧ w'.cell? ⟨bl, 2, none⟩ = some (.int .i64 la.bg) ∧ w'.cell? ⟨bl, 3, none⟩ = some (.int .i64 la.pt) ∧ w'.cell? ⟨bl, 4, none⟩ = some (.int .i64 la.en) ∧ w'.cell? ⟨bl, 5, none⟩ = some (.bool la.bh) ∧ w'.cell? ⟨bl, 6, none⟩ = some (.int .i64 la.kd) ∧ w'.cell? ⟨bl, 7, none⟩ = some (.int .i64 la.nn) ∧ w'.cell? ⟨bl, 8, none⟩ = some (.int .u64 (la.hh : Nat)) ∧ w'.cell? ⟨bl, 9, none⟩ = some (.int .u64 (la.hx : Nat)) ∧ w'.cell? ⟨bl, 10, none⟩ = some (.int .u64 (la.hy : Nat)) ∧ w'.cell? ⟨bl, 11, none⟩ = some (.int .i64 la.er) ∧ w'.cell? ⟨bl, 12, none⟩ = some (.int .u64 (la.ah : Nat)) ∧ w'.cell? ⟨bl, 13, none⟩ = some (.bool la.ay)))
              replace hcf := hid1 hcf
              replace hf := hid1 hf
              replace hp := hid1 hp
              obtain ⟨ra, hra⟩ : ∃ ra, ahB f la = ra := ⟨_, rfl⟩
              have ca : ∀ w, Calls Try.prog 13 #[.agg #[.int .i64 f.cl, .int .i64 f.op, .int .i64 f.bg, .int .i64 f.pt, .int .i64 f.en, .bool f.bh, .int .i64 f.kd, .int .i64 f.nn, .int .u64 (f.hh : Nat), .int .u64 (f.hx : Nat), .int .u64 (f.hy : Nat), .int .i64 f.er, .int .u64 (f.ah : Nat), .bool f.ay], .agg #[.int .i64 la.cl, .int .i64 la.op, .int .i64 la.bg, .int .i64 la.pt, .int .i64 la.en, .bool la.bh, .int .i64 la.kd, .int .i64 la.nn, .int .u64 (la.hh : Nat), .int .u64 (la.hx : Nat), .int .u64 (la.hy : Nat), .int .i64 la.er, .int .u64 (la.ah : Nat), .bool la.ay]] w fun r w' => r = .returned (.bool ra) ∧ Below w.heap.size w w' := fun w => by rw [← hra]; exact ahead_any f la w
              replace ca := hid1 ca
              unfold ahB at hra
              cases ra with
              | true =>
                have hr : rb = false := by
                  cases hb : rb with
                  | false => rfl
                  | true =>
                    have q1 := of_decide_eq_true hra
                    have q2 := hW.out f (List.mem_of_getElem? hf.out)
                    rcases J.out.2.2.is with h | ⟨j, y, e, hj, hy, he, heq⟩
                    · omega
                    · exact absurd (by omega) ((hrb.out.1 hb).2.2.2 j k y _ e f hy hi.out hj he (by rw [Int.toNat_natCast]; exact hf.out))
                subst hr
                replace hra := hid1 hra
                go_upto_region 8 with fail
                refine region_below (by kernel_rfl) (by kernel_rfl) ?_
                repeat (first | go_big_quiet_skip | (go_big_quiet_want; go_big_quiet_op; first | go_big_quiet_on | (refine ⟨_, fun _ _ => rfl, ?_⟩; go_big_quiet_on) | (refine ⟨.bool false, ?_, ?_⟩; (focus (intro w' hw'; have l := k0.out w' hw'; simp [l, Result.andThen]; done)); go_big_quiet_on) | (refine ⟨.agg #[.int .i64 f.cl, .int .i64 f.op, .int .i64 f.bg, .int .i64 f.pt, .int .i64 f.en, .bool f.bh, .int .i64 f.kd, .int .i64 f.nn, .int .u64 (f.hh : Nat), .int .u64 (f.hx : Nat), .int .u64 (f.hy : Nat), .int .i64 f.er, .int .u64 (f.ah : Nat), .bool f.ay], ?_, ?_⟩; (focus (intro w' hw'; obtain ⟨l0, l1, l2, l3, l4, l5, l6, l7, l8, l9, l10, l11, l12, l13⟩ := k1.out w' hw'; simp [l0, l1, l2, l3, l4, l5, l6, l7, l8, l9, l10, l11, l12, l13, Result.andThen]; done)); go_big_quiet_on) | (refine ⟨.agg #[.int .i64 la.cl, .int .i64 la.op, .int .i64 la.bg, .int .i64 la.pt, .int .i64 la.en, .bool la.bh, .int .i64 la.kd, .int .i64 la.nn, .int .u64 (la.hh : Nat), .int .u64 (la.hx : Nat), .int .u64 (la.hy : Nat), .int .i64 la.er, .int .u64 (la.ah : Nat), .bool la.ay], ?_, ?_⟩; (focus (intro w' hw'; obtain ⟨l0, l1, l2, l3, l4, l5, l6, l7, l8, l9, l10, l11, l12, l13⟩ := k2.out w' hw'; simp [l0, l1, l2, l3, l4, l5, l6, l7, l8, l9, l10, l11, l12, l13, Result.andThen]; done)); go_big_quiet_on) | (with_reducible refine ⟨_, (fun w' hw' => (ca.out w').mono fun _ _ ⟨he, hb⟩ => ⟨he, seq_below hw' hb⟩), ?_⟩; go_big_quiet_on)))
                refine wpQuiet_nil ?_
                intro w8 hb8
                go_wp2
                go_ret
                exact ⟨rfl, seq_below I.out.2.2 hb8⟩
              | false =>
                have hra2 := hid1 (of_decide_eq_false hra)
                replace hra := hid1 hra
                go_upto_region 8 with fail
                refine region_below (by kernel_rfl) (by kernel_rfl) ?_
                repeat (first | go_big_quiet_skip | (go_big_quiet_want; go_big_quiet_op; first | go_big_quiet_on | (refine ⟨_, fun _ _ => rfl, ?_⟩; go_big_quiet_on) | (refine ⟨.bool false, ?_, ?_⟩; (focus (intro w' hw'; have l := k0.out w' hw'; simp [l, Result.andThen]; done)); go_big_quiet_on) | (refine ⟨.agg #[.int .i64 f.cl, .int .i64 f.op, .int .i64 f.bg, .int .i64 f.pt, .int .i64 f.en, .bool f.bh, .int .i64 f.kd, .int .i64 f.nn, .int .u64 (f.hh : Nat), .int .u64 (f.hx : Nat), .int .u64 (f.hy : Nat), .int .i64 f.er, .int .u64 (f.ah : Nat), .bool f.ay], ?_, ?_⟩; (focus (intro w' hw'; obtain ⟨l0, l1, l2, l3, l4, l5, l6, l7, l8, l9, l10, l11, l12, l13⟩ := k1.out w' hw'; simp [l0, l1, l2, l3, l4, l5, l6, l7, l8, l9, l10, l11, l12, l13, Result.andThen]; done)); go_big_quiet_on) | (refine ⟨.agg #[.int .i64 la.cl, .int .i64 la.op, .int .i64 la.bg, .int .i64 la.pt, .int .i64 la.en, .bool la.bh, .int .i64 la.kd, .int .i64 la.nn, .int .u64 (la.hh : Nat), .int .u64 (la.hx : Nat), .int .u64 (la.hy : Nat), .int .i64 la.er, .int .u64 (la.ah : Nat), .bool la.ay], ?_, ?_⟩; (focus (intro w' hw'; obtain ⟨l0, l1, l2, l3, l4, l5, l6, l7, l8, l9, l10, l11, l12, l13⟩ := k2.out w' hw'; simp [l0, l1, l2, l3, l4, l5, l6, l7, l8, l9, l10, l11, l12, l13, Result.andThen]; done)); go_big_quiet_on) | (with_reducible refine ⟨_, (fun w' hw' => (ca.out w').mono fun _ _ ⟨he, hb⟩ => ⟨he, seq_below hw' hb⟩), ?_⟩; go_big_quiet_on)))
                refine wpQuiet_nil ?_
                intro w8 hb8
                have i1 := (hb8.block _ (lt_of_block I.out.1)).trans I.out.1
                have i2 := (hb8.block _ (lt_of_block I.out.2.1)).trans I.out.2.1
                have i3 := seq_below I.out.2.2 hb8
                have c0 : w8.cell? ⟨g, x, none⟩ = some (.bool false) := k0.out _ hb8
                have f0 := cells_freeH i1 x
                have M2 := hid1 (J.out.1.step hi.out)
                have R2 := hid1 (J.out.2.1.step hi.out (by have := hE.out; omega) hnm.out (by rw [Int.toNat_natCast]; exact hf.out) (fun t z e1 h1 h2 h3 => by have := J.out.2.2.up t z e1 h1 h2 h3; have := hra2.out; omega))
                have I2 := hid1 (show (w8.setCell ⟨g, x, none⟩ (.bool true)).heap[g]? = some (.cells (bolA n fun j => p j || decide (j = x)) 4 (0, 0)) ∧ (w8.setCell ⟨g, x, none⟩ (.bool true)).heap[bl]? = some (.cells #[.int .i64 la.cl, .int .i64 la.op, .int .i64 la.bg, .int .i64 la.pt, .int .i64 la.en, .bool la.bh, .int .i64 la.kd, .int .i64 la.nn, .int .u64 (la.hh : Nat), .int .u64 (la.hx : Nat), .int .u64 (la.hy : Nat), .int .i64 la.er, .int .u64 (la.ah : Nat), .bool la.ay] 36 (0, 0)) ∧ Below w.heap.size w (w8.setCell ⟨g, x, none⟩ (.bool true)) from ⟨by rw [← bolA_set p hxn]; exact heap_putH i1 _, (Below.heap_setCell _ _ _ _ ngl.symm).trans i2, i3.setCell (p := ⟨g, x, none⟩) hgw.out _⟩)
                clear i1 i2 i3 k0 k1 k2 z0 hb8 I hra
                go_upto_region 11 with fail
                generalize w8.setCell ⟨g, x, none⟩ (.bool true) = w3 at *
                clear c0 f0
                have k1 := hid1 (fun w' (b : Below w3.heap.size w3 w') => (hcf.out w' (seq_below I2.out.2.2 b)).2.2.1)
                have k2 := hid1 (fun w' (b : Below w3.heap.size w3 w') => (by
                  have e := (b.block _ (lt_of_block I2.out.2.1)).trans I2.out.2.1
                  simp [World.cell?, e] : w'.cell? ⟨bl, 2, none⟩ = some (.int .i64 la.bg)))
                by_cases h5 : la.bg < f.bg
                · have d5 : decide (la.bg < f.bg) = true := decide_eq_true h5
                  have L2 := hid1 (J.out.2.2.turn hi.out (by rw [Int.toNat_natCast]; exact hf.out) h5)
                  replace h5 := hid1 h5
                  refine region_below (by kernel_rfl) (by kernel_rfl) ?_
                  repeat (first | go_big_quiet_skip | (go_big_quiet_want; go_big_quiet_op; first | go_big_quiet_on | (refine ⟨_, fun _ _ => rfl, ?_⟩; go_big_quiet_on) | (refine ⟨.int .i64 f.bg, ?_, ?_⟩; (focus (intro w' hw'; have l := k1.out w' hw'; simp [l, Result.andThen]; done)); go_big_quiet_on) | (refine ⟨.int .i64 la.bg, ?_, ?_⟩; (focus (intro w' hw'; have l := k2.out w' hw'; simp [l, Result.andThen]; done)); go_big_quiet_on)))
                  refine wpQuiet_nil ?_
                  intro w8 hb8
                  obtain ⟨c0, c1, c2, c3, c4, c5, c6, c7, c8, c9, c10, c11, c12, c13⟩ := hcf.out _ (seq_below I2.out.2.2 hb8)
                  have i1 := (hb8.block _ (lt_of_block I2.out.1)).trans I2.out.1
                  have i2 := (hb8.block _ (lt_of_block I2.out.2.1)).trans I2.out.2.1
                  have i3 := seq_below I2.out.2.2 hb8
                  clear k1 k2 hb8 I2
                  have o1 : (#[.int .i64 f.cl, .int .i64 f.op, .int .i64 f.bg, .int .i64 f.pt, .int .i64 f.en, .bool f.bh, .int .i64 f.kd, .int .i64 f.nn, .int .u64 (f.hh : Nat), .int .u64 (f.hx : Nat), .int .u64 (f.hy : Nat), .int .i64 f.er, .int .u64 (f.ah : Nat), .bool f.ay] : Array Value).all (·.oneCell') = true := by kernel_rfl
                  go_wp2_with (refine wpList_store_row rfl 36 _ _ rfl bl (#[.int .i64 f.cl, .int .i64 f.op, .int .i64 f.bg, .int .i64 f.pt, .int .i64 f.en, .bool f.bh, .int .i64 f.kd, .int .i64 f.nn, .int .u64 (f.hh : Nat), .int .u64 (f.hx : Nat), .int .u64 (f.hy : Nat), .int .i64 f.er, .int .u64 (f.ah : Nat), .bool f.ay] : Array Value) rfl rfl 36 _ i2 (by show _ = some 14; kernel_rfl) rfl o1 ?_)
                  have i4 := setRow_heap w8 bl _ #[.int .i64 f.cl, .int .i64 f.op, .int .i64 f.bg, .int .i64 f.pt, .int .i64 f.en, .bool f.bh, .int .i64 f.kd, .int .i64 f.nn, .int .u64 (f.hh : Nat), .int .u64 (f.hx : Nat), .int .u64 (f.hy : Nat), .int .i64 f.er, .int .u64 (f.ah : Nat), .bool f.ay] _ _ i2
                  have i5 := (setRow_other w8 bl #[.int .i64 f.cl, .int .i64 f.op, .int .i64 f.bg, .int .i64 f.pt, .int .i64 f.en, .bool f.bh, .int .i64 f.kd, .int .i64 f.nn, .int .u64 (f.hh : Nat), .int .u64 (f.hx : Nat), .int .u64 (f.hy : Nat), .int .i64 f.er, .int .u64 (f.ah : Nat), .bool f.ay] g ngl).trans i1
                  have i6 := below_setRow i3 bl (by have := hgw.out; have := hbl.out; omega) #[.int .i64 f.cl, .int .i64 f.op, .int .i64 f.bg, .int .i64 f.pt, .int .i64 f.en, .bool f.bh, .int .i64 f.kd, .int .i64 f.nn, .int .u64 (f.hh : Nat), .int .u64 (f.hx : Nat), .int .u64 (f.hy : Nat), .int .i64 f.er, .int .u64 (f.ah : Nat), .bool f.ay]
                  go_roundg (m - (k + 1))
                  case measure => omega
                  case rel => exact ⟨k + 1, _, f, by go_num, by omega, Nat.le_refl _, hid1 ⟨i5, i4, i6⟩, hid1 ⟨M2.out, R2.out, L2.out⟩⟩
                · have d5 : decide (la.bg < f.bg) = false := decide_eq_false h5
                  have L2 := hid1 (J.out.2.2.stay hi.out (by rw [Int.toNat_natCast]; exact hf.out) (by omega))
                  replace h5 := hid1 h5
                  refine region_below (by kernel_rfl) (by kernel_rfl) ?_
                  repeat (first | go_big_quiet_skip | (go_big_quiet_want; go_big_quiet_op; first | go_big_quiet_on | (refine ⟨_, fun _ _ => rfl, ?_⟩; go_big_quiet_on) | (refine ⟨.int .i64 f.bg, ?_, ?_⟩; (focus (intro w' hw'; have l := k1.out w' hw'; simp [l, Result.andThen]; done)); go_big_quiet_on) | (refine ⟨.int .i64 la.bg, ?_, ?_⟩; (focus (intro w' hw'; have l := k2.out w' hw'; simp [l, Result.andThen]; done)); go_big_quiet_on)))
                  refine wpQuiet_nil ?_
                  intro w8 hb8
                  have I3 := hid1 (And.intro ((hb8.block _ (lt_of_block I2.out.1)).trans I2.out.1) (And.intro ((hb8.block _ (lt_of_block I2.out.2.1)).trans I2.out.2.1) (seq_below I2.out.2.2 hb8)))
                  clear hb8 I2
                  go_wp2
                  go_roundg (m - (k + 1))
                  case measure => omega
                  case rel => exact ⟨k + 1, _, la, by go_num, by omega, Nat.le_refl _, I3, hid1 ⟨M2.out, R2.out, L2.out⟩⟩
      · obtain rfl : k = m := by omega
        have hltz : ¬ (k : Int) < (k : Int) := by omega
        have hr : rb = true := hrb.out.2 (RsK.all (by rw [← hO.out]; exact J.out.2.1) (by rw [← hO.out, hmn.out, hE.out]))
        subst hr
        go_wp2
        go_ret
        exact ⟨rfl, I.out.2.2⟩
  · have hne : ((m : Int) != (n : Int)) = true := by simp; omega
    have hr : rb = false := by
      cases hb : rb with
      | false => rfl
      | true => exact absurd (hrb.out.1 hb).1 (by have := hO; omega)
    subst hr
    clear hmk
    go_enter Try.func15, Try.ntmps15
    go_wp2
    go_ret
    exact ⟨rfl, Below.refl _ _⟩
end Go.Proofs.Ythihdaloonagoaa
