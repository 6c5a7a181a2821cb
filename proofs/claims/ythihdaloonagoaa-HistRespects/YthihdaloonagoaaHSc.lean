/- Layer 18: HistMoves. -/
import Derived.Test.YthihdaloonagoaaHSb
namespace Go.Proofs.Ythihdaloonagoaa
open Go.RowKit Go.Sort
set_option linter.unusedSimpArgs false
set_option linter.unusedVariables false

def shE (d : Int) (e : Ev) : Ev := { e with bg := e.bg + d, pt := e.pt + d, en := e.en + d }
theorem sh_right (E : List Ev) (c d : Int) : RightP (E.map (shE d)) c ↔ RightP E c := by
  have get : ∀ (i : Nat) (e : Ev), E[i]? = some e → (E.map (shE d))[i]? = some (shE d e) := fun i e h => by rw [List.getElem?_map, h]; rfl
  have got : ∀ (i : Nat) (e : Ev), (E.map (shE d))[i]? = some e → ∃ e0, E[i]? = some e0 ∧ e = shE d e0 := fun i e h => by
    rw [List.getElem?_map] at h
    cases hl : E[i]? with
    | none => rw [hl] at h; cases h
    | some y => rw [hl] at h; exact ⟨y, rfl, (Option.some.inj h).symm⟩
  constructor
  · rintro ⟨h1, h2⟩
    refine ⟨fun i e h => ?_, fun i k e f hi hk hik hc => ?_⟩
    · have q := h1 i _ (get i e h)
      have q1 : 0 ≤ e.cl := q.1
      have q2 : e.cl < c := q.2.1
      have q3 : e.bg + d ≤ e.pt + d := q.2.2.1
      have q4 : e.pt + d ≤ e.en + d := q.2.2.2
      exact ⟨q1, q2, by omega, by omega⟩
    · have q := h2 i k _ _ (get i e hi) (get k f hk) hik hc
      have q2 : e.op < f.op → e.en + d < f.bg + d := q.2
      exact ⟨q.1, fun h => by have := q2 h; omega⟩
  · rintro ⟨h1, h2⟩
    refine ⟨fun i e h => ?_, fun i k e f hi hk hik hc => ?_⟩
    · obtain ⟨e0, h0, rfl⟩ := got i e h
      have q := h1 i e0 h0
      exact ⟨q.1, q.2.1, Int.add_le_add_right q.2.2.1 d, Int.add_le_add_right q.2.2.2 d⟩
    · obtain ⟨e0, h0, rfl⟩ := got i e hi
      obtain ⟨f0, g0, rfl⟩ := got k f hk
      have q := h2 i k e0 f0 h0 g0 hik hc
      exact ⟨q.1, fun h => Int.add_lt_add_right (q.2 h) d⟩
theorem sh_resp (E : List Ev) (O : List Int) (d : Int) : RespP (E.map (shE d)) O ↔ RespP E O := by
  have get : ∀ (i : Nat) (e : Ev), E[i]? = some e → (E.map (shE d))[i]? = some (shE d e) := fun i e h => by rw [List.getElem?_map, h]; rfl
  have got : ∀ (i : Nat) (e : Ev), (E.map (shE d))[i]? = some e → ∃ e0, E[i]? = some e0 ∧ e = shE d e0 := fun i e h => by
    rw [List.getElem?_map] at h
    cases hl : E[i]? with
    | none => rw [hl] at h; cases h
    | some y => rw [hl] at h; exact ⟨y, rfl, (Option.some.inj h).symm⟩
  unfold RespP
  rw [List.length_map]
  refine and_congr_right fun _ => and_congr_right fun _ => and_congr_right fun _ => ?_
  constructor
  · intro h j k x y e f h1 h2 h3 h4 h5 h6
    exact h j k x y _ _ h1 h2 h3 (get _ e h4) (get _ f h5) (Int.add_lt_add_right h6 d)
  · intro h j k x y e f h1 h2 h3 h4 h5 h6
    obtain ⟨e0, g0, rfl⟩ := got _ e h4
    obtain ⟨f0, g1, rfl⟩ := got _ f h5
    have q : f0.en + d < e0.bg + d := h6
    exact h j k x y e0 f0 h1 h2 h3 g0 g1 (by omega)
def evL (M : List Ev) : List Value := M.flatMap fun e => e.row.toList
theorem evL_at : ∀ (M : List Ev) (i k : Nat) (e : Ev), M[i]? = some e → k < 14 → (evL M)[i * 14 + k]? = e.row[k]?
  | [], i, k, e, h, _ => by simp at h
  | f :: M, 0, k, e, h, hk => by
    obtain rfl : f = e := by simpa using h
    unfold evL
    rw [List.flatMap_cons, List.getElem?_append_left (by show 0 * 14 + k < 14; omega)]
    simp
  | f :: M, i + 1, k, e, h, hk => by
    have ih := evL_at M i k e (by simpa using h) hk
    unfold evL at ih ⊢
    have hl : f.row.toList.length = 14 := rfl
    rw [List.flatMap_cons, List.getElem?_append_right (by rw [hl]; omega), hl, show (i + 1) * 14 + k - 14 = i * 14 + k by omega]
    exact ih
theorem own_ev {w : World} {base n cp : Nat} {a : Option Addr} {M : List Ev} (hn : n = M.length) (h : w.ownsRow base 36 14 (.slice a n cp) n (evL M)) : RdEv w a M := fun i e hi => by
  have hlt := (List.getElem?_eq_some_iff.1 hi).1
  rcases h.2 with ⟨_, h0⟩ | ⟨g, cap, cur, hv, _, hh, _, _, _, h5⟩
  · omega
  · simp only [Value.slice.injEq] at hv
    obtain ⟨rfl, _, rfl⟩ := hv
    refine ⟨g, 0, rfl, lt_of_block hh, fun k hk => ?_⟩
    simp only [World.cell?, hh]
    show cur[0 + i * 14 + k]? = _
    have q := evL_at M i k e hi hk
    rw [← h5, List.getElem?_take, if_pos (by omega)] at q
    rw [Nat.zero_add, ← q]
    simp
theorem infoE : (Try.prog.info? 36).map (fun i => (i.zero, i.size, i.bytes)) = some (some (.agg #[.int .i64 0, .int .i64 0, .int .i64 0, .int .i64 0, .int .i64 0, .bool false, .int .i64 0, .int .i64 0, .int .u64 0, .int .u64 0, .int .u64 0, .int .i64 0, .int .u64 0, .bool false]), 14, 112) := by kernel_rfl
theorem infoE_parts : ∃ i, Try.prog.info? 36 = some i ∧ i.zero = some (.agg #[.int .i64 0, .int .i64 0, .int .i64 0, .int .i64 0, .int .i64 0, .bool false, .int .i64 0, .int .i64 0, .int .u64 0, .int .u64 0, .int .u64 0, .int .i64 0, .int .u64 0, .bool false]) ∧ i.size = 14 ∧ i.bytes = 112 := by
  have h := infoE
  cases hi : Try.prog.info? 36 with
  | none => rw [hi] at h; cases h
  | some i =>
    rw [hi] at h
    simp only [Option.map_some, Option.some.injEq, Prod.mk.injEq] at h
    exact ⟨i, rfl, h.1, h.2.1, h.2.2⟩
def farB (x : Int) : Bool := decide (1099511627776 < x) || decide (x < -1099511627776)
set_option maxRecDepth 100000 in
theorem far_any (x : Int) (w : World) : Calls Try.prog 17 #[.int .i64 x] w fun r w' => r = .returned (.bool (farB x)) ∧ w' = w := by
  obtain ⟨rb, hrb⟩ : ∃ rb, farB x = rb := ⟨_, rfl⟩
  rw [hrb]
  unfold farB at hrb
  by_cases h1 : 1099511627776 < x
  · have d1 : decide (1099511627776 < x) = true := decide_eq_true h1
    obtain rfl : rb = true := by rw [← hrb, d1]; rfl
    clear hrb
    go_enter Try.func17, Try.ntmps17
    go_wp2
    go_ret
    exact ⟨rfl, rfl⟩
  · have d1 : decide (1099511627776 < x) = false := decide_eq_false h1
    by_cases h2 : x < -1099511627776
    · have d2 : decide (x < -1099511627776) = true := decide_eq_true h2
      obtain rfl : rb = true := by rw [← hrb, d1, d2]; rfl
      clear hrb
      go_enter Try.func17, Try.ntmps17
      go_wp2
      go_ret
      exact ⟨rfl, rfl⟩
    · have d2 : decide (x < -1099511627776) = false := decide_eq_false h2
      obtain rfl : rb = false := by rw [← hrb, d1, d2]; rfl
      clear hrb
      go_enter Try.func17, Try.ntmps17
      go_wp2
      go_ret
      exact ⟨rfl, rfl⟩
set_option maxRecDepth 100000 in
set_option maxHeartbeats 16000000 in
theorem moves_law {w : World} {ad : Option Addr} {n : Nat} (cap : Nat) {E : List Ev} (hE : n = E.length) (hR : RdEv w ad E) (hW : ∀ e ∈ E, -9223372036854775808 ≤ e.en) (c d : Int) (hd : 0 ≤ d ∧ d < 65536) : Calls Try.prog 7 #[.slice ad n cap, .int .i64 c, .int .u16 d] w fun r w' => r = .returned (.bool true) ∧ Below w.heap.size w w' := by
  have B0 := Below.refl w.heap.size w
  by_cases hn : 60 < n
  · have hnz : (60 : Int) < (n : Int) := by omega
    clear hE hW
    go_enter Try.func7, Try.ntmps7
    go_wp2_with (go_at_call 10; with_reducible refine (awake_at B0).mono ?_; rintro r w1 ⟨rfl, b⟩; replace B0 := b; clear b)
    go_ret
    exact ⟨rfl, B0⟩
  · have hnz : ¬ (60 : Int) < (n : Int) := by omega
    have hnb : n ≤ 60 := by omega
    obtain ⟨i3, hi3, hz3, hs3, hb3⟩ := infoE_parts
    have hI3 := hid1 (And.intro hi3 (And.intro hz3 (And.intro hs3 hb3)))
    clear hi3 hz3 hs3 hb3
    obtain ⟨hd0, hd1⟩ := hd
    have hR := hid1 hR
    replace hW := hid1 hW
    replace hE := hid1 hE
    clear B0
    go_enter Try.func7, Try.ntmps7
    go_wp2
    go_loopg [7, 8] n (fun g1 vm vi wr => ∃ (i : Nat), vi = .int .i64 i ∧ i ≤ n ∧ n - i ≤ g1 ∧ Hid (wr.ownsRow w.heap.size 36 14 vm i (evL ((E.take i).map (shE d))) ∧ Below w.heap.size w wr))
    case atStart => exact ⟨0, by go_num, Nat.zero_le _, by omega, hid1 ⟨World.ownsRow_nil _ _ _ _, Below.refl _ _⟩⟩
    case round =>
      obtain ⟨i, rfl, hi, hg1, R⟩ := hrel
      obtain ⟨ao, co, hvo⟩ := own_form R.out.1
      subst hvo
      by_cases hlt : i < n
      · have hltz : (i : Int) < (n : Int) := by omega
        obtain ⟨e, he⟩ : ∃ e, E[i]? = some e := ⟨_, List.getElem?_eq_getElem (by have := hE.out; omega)⟩
        obtain ⟨bE, oE, ha, hb, hc⟩ := hR.out.at he
        subst ha
        obtain ⟨c0, c1, c2, c3, c4, c5, c6, c7, c8, c9, c10, c11, c12, c13⟩ := hc _ R.out.2
        clear hc
        have hq := new_obj wr (.cells #[.int .i64 e.cl, .int .i64 e.op, .int .i64 e.bg, .int .i64 e.pt, .int .i64 e.en, .bool e.bh, .int .i64 e.kd, .int .i64 e.nn, .int .u64 (e.hh : Nat), .int .u64 (e.hx : Nat), .int .u64 (e.hy : Nat), .int .i64 e.er, .int .u64 (e.ah : Nat), .bool e.ay] 36)
        have bA := alloc_below wr (.cells #[.int .i64 e.cl, .int .i64 e.op, .int .i64 e.bg, .int .i64 e.pt, .int .i64 e.en, .bool e.bh, .int .i64 e.kd, .int .i64 e.nn, .int .u64 (e.hh : Nat), .int .u64 (e.hx : Nat), .int .u64 (e.hy : Nat), .int .i64 e.er, .int .u64 (e.ah : Nat), .bool e.ay] 36)
        go_upto_region 8 with fail
        clear c0 c1 c2 c3 c4 c5 c6 c7 c8 c9 c10 c11 c12 c13
        generalize World.alloc _ _ = w2 at *
        obtain ⟨bq, hbq⟩ : ∃ b, wr.heap.size = b := ⟨_, rfl⟩
        rw [hbq] at hq ⊢
        have hbw := hid1 (show w.heap.size ≤ bq by rw [← hbq]; exact R.out.2.size)
        obtain ⟨x0, x1, x2, x3, x4, x5, x6, x7, x8, x9, x10, x11, x12, x13⟩ : w2.cell? ⟨bq, 0, none⟩ = some (.int .i64 e.cl) ∧ w2.cell? ⟨bq, 1, none⟩ = some (.int .i64 e.op) ∧ w2.cell? ⟨bq, 2, none⟩ = some (.int .i64 e.bg) ∧ w2.cell? ⟨bq, 3, none⟩ = some (.int .i64 e.pt) ∧ w2.cell? ⟨bq, 4, none⟩ = some (.int .i64 e.en) ∧ w2.cell? ⟨bq, 5, none⟩ = some (.bool e.bh) ∧ w2.cell? ⟨bq, 6, none⟩ = some (.int .i64 e.kd) ∧ w2.cell? ⟨bq, 7, none⟩ = some (.int .i64 e.nn) ∧ w2.cell? ⟨bq, 8, none⟩ = some (.int .u64 (e.hh : Nat)) ∧ w2.cell? ⟨bq, 9, none⟩ = some (.int .u64 (e.hx : Nat)) ∧ w2.cell? ⟨bq, 10, none⟩ = some (.int .u64 (e.hy : Nat)) ∧ w2.cell? ⟨bq, 11, none⟩ = some (.int .i64 e.er) ∧ w2.cell? ⟨bq, 12, none⟩ = some (.int .u64 (e.ah : Nat)) ∧ w2.cell? ⟨bq, 13, none⟩ = some (.bool e.ay) := by simp [World.cell?, hq]
        have R2 := hid1 (And.intro (own_below R.out.1 bA) (seq_below R.out.2 bA))
        have nv2 : ∀ g, (Value.slice ao i co).ownBlock = some g → g ≠ bq := fun g hg e => by
          obtain ⟨_, cur, hh⟩ := own_cells R.out.1 hg
          have := lt_of_block hh
          omega
        replace nv2 := hid1 nv2
        clear bA hbq R
        have cf := hid1 far_any
        replace he := hid1 he
        cases f1 : farB e.bg with
        | true =>
          have k1 := fun w => far_any e.bg w
          rw [f1] at k1
          replace k1 := hid1 k1
          have B2 := R2.out.2
          go_wp2_with (first | (go_at_call 17; with_reducible refine (k1.out _).mono ?_; rintro r w1 ⟨rfl, rfl⟩) | (go_at_call 10; with_reducible refine (awake_at B2).mono ?_; rintro r w1 ⟨rfl, b⟩; replace B2 := b; clear b))
          go_ret
          exact ⟨rfl, B2⟩
        | false =>
          have k1 := fun w => far_any e.bg w
          rw [f1] at k1
          replace k1 := hid1 k1
          have v1 : -1099511627776 ≤ e.bg ∧ e.bg ≤ 1099511627776 := by unfold farB at f1; simp at f1; omega
          cases f2 : farB e.pt with
          | true =>
            have k2 := fun w => far_any e.pt w
            rw [f2] at k2
            replace k2 := hid1 k2
            have B2 := R2.out.2
            replace v1 := hid1 v1
            go_wp2_with (first | (go_at_call 17; with_reducible refine (k1.out _).mono ?_; rintro r w1 ⟨rfl, rfl⟩) | (go_at_call 17; with_reducible refine (k2.out _).mono ?_; rintro r w1 ⟨rfl, rfl⟩) | (go_at_call 10; with_reducible refine (awake_at B2).mono ?_; rintro r w1 ⟨rfl, b⟩; replace B2 := b; clear b))
            go_ret
            exact ⟨rfl, B2⟩
          | false =>
            have k2 := fun w => far_any e.pt w
            rw [f2] at k2
            replace k2 := hid1 k2
            have v2 : -1099511627776 ≤ e.pt ∧ e.pt ≤ 1099511627776 := by unfold farB at f2; simp at f2; omega
            cases f3 : farB e.en with
            | true =>
              have k3 := fun w => far_any e.en w
              rw [f3] at k3
              replace k3 := hid1 k3
              have B2 := R2.out.2
              replace v1 := hid1 v1
              replace v2 := hid1 v2
              go_wp2_with (first | (go_at_call 17; with_reducible refine (k1.out _).mono ?_; rintro r w1 ⟨rfl, rfl⟩) | (go_at_call 17; with_reducible refine (k2.out _).mono ?_; rintro r w1 ⟨rfl, rfl⟩) | (go_at_call 17; with_reducible refine (k3.out _).mono ?_; rintro r w1 ⟨rfl, rfl⟩) | (go_at_call 10; with_reducible refine (awake_at B2).mono ?_; rintro r w1 ⟨rfl, b⟩; replace B2 := b; clear b))
              go_ret
              exact ⟨rfl, B2⟩
            | false =>
              have k3 := fun w => far_any e.en w
              rw [f3] at k3
              replace k3 := hid1 k3
              have v3 : -1099511627776 ≤ e.en ∧ e.en ≤ 1099511627776 := by unfold farB at f3; simp at f3; omega
              have r1 : IntKind.i64.wrap (e.bg + d) = e.bg + d := by rw [IntKind.wrap_i64]; omega
              have r2 : IntKind.i64.wrap (e.pt + d) = e.pt + d := by rw [IntKind.wrap_i64]; omega
              have r3 : IntKind.i64.wrap (e.en + d) = e.en + d := by rw [IntKind.wrap_i64]; omega
              replace v1 := hid1 v1
              replace v2 := hid1 v2
              replace v3 := hid1 v3
              have u2 := cells_freeH hq 2
              have u3 := cells_freeH hq 3
              have u4 := cells_freeH hq 4
              have h3 := heap_putH (j := 4) (heap_putH (j := 3) (heap_putH (j := 2) hq (.int .i64 (e.bg + d))) (.int .i64 (e.pt + d))) (.int .i64 (e.en + d))
              replace h3 : (((w2.setCell ⟨bq, 2, none⟩ (.int .i64 (e.bg + d))).setCell ⟨bq, 3, none⟩ (.int .i64 (e.pt + d))).setCell ⟨bq, 4, none⟩ (.int .i64 (e.en + d))).heap[bq]? = some (.cells #[.int .i64 e.cl, .int .i64 e.op, .int .i64 (e.bg + d), .int .i64 (e.pt + d), .int .i64 (e.en + d), .bool e.bh, .int .i64 e.kd, .int .i64 e.nn, .int .u64 (e.hh : Nat), .int .u64 (e.hx : Nat), .int .u64 (e.hy : Nat), .int .i64 e.er, .int .u64 (e.ah : Nat), .bool e.ay] 36 (0, 0)) := h3
              have b4 : Below w.heap.size w (((w2.setCell ⟨bq, 2, none⟩ (.int .i64 (e.bg + d))).setCell ⟨bq, 3, none⟩ (.int .i64 (e.pt + d))).setCell ⟨bq, 4, none⟩ (.int .i64 (e.en + d))) := ((R2.out.2.setCell (p := ⟨bq, 2, none⟩) hbw.out _).setCell (p := ⟨bq, 3, none⟩) hbw.out _).setCell (p := ⟨bq, 4, none⟩) hbw.out _
              have o4 := own_kept (w' := (((w2.setCell ⟨bq, 2, none⟩ (.int .i64 (e.bg + d))).setCell ⟨bq, 3, none⟩ (.int .i64 (e.pt + d))).setCell ⟨bq, 4, none⟩ (.int .i64 (e.en + d)))) R2.out.1 fun g hg => ((Below.heap_setCell _ _ _ _ (nv2.out g hg)).trans (Below.heap_setCell _ _ _ _ (nv2.out g hg))).trans (Below.heap_setCell _ _ _ _ (nv2.out g hg))
              replace h3 := hid1 h3
              replace b4 := hid1 b4
              replace o4 := hid1 o4
              clear hq R2
              go_upto_region 13 with (first | (go_at_call 17; with_reducible refine (k1.out _).mono ?_; rintro r w1 ⟨rfl, rfl⟩) | (go_at_call 17; with_reducible refine (k2.out _).mono ?_; rintro r w1 ⟨rfl, rfl⟩) | (go_at_call 17; with_reducible refine (k3.out _).mono ?_; rintro r w1 ⟨rfl, rfl⟩))
              generalize World.setCell _ _ _ = w4 at *
              clear x0 x1 x2 x3 x4 x5 x6 x7 x8 x9 x10 x11 x12 x13 u2 u3 u4 k1 k2 k3 cf
              obtain ⟨x0, x1, x2, x3, x4, x5, x6, x7, x8, x9, x10, x11, x12, x13⟩ : w4.cell? ⟨bq, 0, none⟩ = some (.int .i64 e.cl) ∧ w4.cell? ⟨bq, 1, none⟩ = some (.int .i64 e.op) ∧ w4.cell? ⟨bq, 2, none⟩ = some (.int .i64 (e.bg + d)) ∧ w4.cell? ⟨bq, 3, none⟩ = some (.int .i64 (e.pt + d)) ∧ w4.cell? ⟨bq, 4, none⟩ = some (.int .i64 (e.en + d)) ∧ w4.cell? ⟨bq, 5, none⟩ = some (.bool e.bh) ∧ w4.cell? ⟨bq, 6, none⟩ = some (.int .i64 e.kd) ∧ w4.cell? ⟨bq, 7, none⟩ = some (.int .i64 e.nn) ∧ w4.cell? ⟨bq, 8, none⟩ = some (.int .u64 (e.hh : Nat)) ∧ w4.cell? ⟨bq, 9, none⟩ = some (.int .u64 (e.hx : Nat)) ∧ w4.cell? ⟨bq, 10, none⟩ = some (.int .u64 (e.hy : Nat)) ∧ w4.cell? ⟨bq, 11, none⟩ = some (.int .i64 e.er) ∧ w4.cell? ⟨bq, 12, none⟩ = some (.int .u64 (e.ah : Nat)) ∧ w4.cell? ⟨bq, 13, none⟩ = some (.bool e.ay) := by have q := h3.out; simp [World.cell?, q]
              have bN := alloc_below w4 (.cells #[.int .i64 e.cl, .int .i64 e.op, .int .i64 (e.bg + d), .int .i64 (e.pt + d), .int .i64 (e.en + d), .bool e.bh, .int .i64 e.kd, .int .i64 e.nn, .int .u64 (e.hh : Nat), .int .u64 (e.hx : Nat), .int .u64 (e.hy : Nat), .int .i64 e.er, .int .u64 (e.ah : Nat), .bool e.ay] 36)
              have own5 := hid1 (own_below o4.out bN)
              have bel5 := hid1 (seq_below b4.out bN)
              have hN5 := hid1 (new_obj w4 (.cells #[.int .i64 e.cl, .int .i64 e.op, .int .i64 (e.bg + d), .int .i64 (e.pt + d), .int .i64 (e.en + d), .bool e.bh, .int .i64 e.kd, .int .i64 e.nn, .int .u64 (e.hh : Nat), .int .u64 (e.hx : Nat), .int .u64 (e.hy : Nat), .int .i64 e.er, .int .u64 (e.ah : Nat), .bool e.ay] 36))
              have hN6 := hid1 (fun (j : Nat) (u : Value) (h : (shE d e).row.toList[j]? = some u) => (by
                have q := hN5.out
                have ea : (⟨w4.heap.size, 0, none⟩ : Addr).add j = ⟨w4.heap.size, j, none⟩ := by unfold Addr.add; split <;> simp_all
                rw [ea]
                simp only [World.cell?, q]
                show (shE d e).row[j]? = _
                simpa using h : (w4.alloc (.cells #[.int .i64 e.cl, .int .i64 e.op, .int .i64 (e.bg + d), .int .i64 (e.pt + d), .int .i64 (e.en + d), .bool e.bh, .int .i64 e.kd, .int .i64 e.nn, .int .u64 (e.hh : Nat), .int .u64 (e.hx : Nat), .int .u64 (e.hy : Nat), .int .i64 e.er, .int .u64 (e.ah : Nat), .bool e.ay] 36)).cell? ((⟨w4.heap.size, 0, none⟩ : Addr).add j) = some u))
              go_wp2_with (at_builtin; refine wpList_append_own _ rfl _ _ 22 rfl w.heap.size 36 i3 (.agg #[.int .i64 0, .int .i64 0, .int .i64 0, .int .i64 0, .int .i64 0, .bool false, .int .i64 0, .int .i64 0, .int .u64 0, .int .u64 0, .int .u64 0, .int .i64 0, .int .u64 0, .bool false]) 14 112 Try.underlying22 hI3.out.1 hI3.out.2.1 hI3.out.2.2.1 hI3.out.2.2.2 rfl (by decide) _ i _ rfl own5.out ⟨w4.heap.size, 0, none⟩ 1 1 (shE d e).row.toList rfl rfl hN6.out (by intro u hu; simp [Ev.row] at hu; rcases hu with h | h | h | h | h | h | h | h | h | h | h | h | h | h <;> subst h <;> rfl) (by unfold maxLen; omega) (by omega) bel5.out.size ?_; intro v9 w9 own9 gr9 _; have own9 := hid1 own9; have gr9 := hid1 gr9)
              go_roundg (n - (i + 1))
              case measure => omega
              case rel =>
                refine ⟨i + 1, by go_num, by omega, Nat.le_refl _, hid1 ⟨?_, below_grown bel5.out gr9.out (fun x hx => (own_cells own5.out hx).1) bel5.out.size⟩⟩
                have q : evL ((E.take (i + 1)).map (shE d)) = evL ((E.take i).map (shE d)) ++ (shE d e).row.toList := by
                  rw [List.take_add_one, he.out, List.map_append]
                  unfold evL
                  rw [List.flatMap_append]
                  simp
                rw [q]
                exact own9.out
      · obtain rfl : i = n := by omega
        have hltz : ¬ (i : Int) < (i : Int) := by omega
        have eT : E.take i = E := by rw [hE.out]; exact List.take_length
        have RM := hid1 (own_ev (base := w.heap.size) (n := i) (cp := co) (a := ao) (M := E.map (shE d)) (hE.out.trans (List.length_map ..).symm) (by have q := R.out.1; rw [eT] at q; exact q))
        have RE := hid1 (hR.out.below R.out.2)
        have B2 := R.out.2
        have hM := hid1 (show i = (E.map (shE d)).length by rw [List.length_map]; exact hE.out)
        have hWM := hid1 (show ∀ e ∈ E.map (shE d), -9223372036854775808 ≤ e.en from fun e he => by
          obtain ⟨e0, h0, rfl⟩ := List.mem_map.1 he
          have := hW.out e0 h0
          show _ ≤ e0.en + d
          omega)
        obtain ⟨rb, hrb⟩ := is_bool (RightP E c)
        have c3 := hid1 (fun w' (b : Below wr.heap.size wr w') => order_at cap hE.out RE.out (by omega) b)
        replace hrb := hid1 hrb
        have BR := Below.refl wr.heap.size wr
        go_upto_region 15 with (go_at_call 11; with_reducible refine (c3.out _ BR).mono ?_; rintro r w1 ⟨a, rfl, hO, b⟩; replace BR := b; clear b)
        obtain ⟨l, O, Z⟩ := hO.out
        obtain ⟨rs, hrs⟩ := is_bool (RespP E (l.map fun (x : Nat) => (x : Int)))
        have hlO : i = (l.map fun (x : Nat) => (x : Int)).length := by rw [List.length_map, O.len]
        have c4 := hid1 (fun w' (b : Below w1.heap.size w1 w') => resp_at co i hM.out (RM.out.below BR) (by omega) hWM.out hlO Z (hrs.trans (sh_resp E _ d).symm) b)
        have c5 := hid1 (fun w' (b : Below w1.heap.size w1 w') => resp_at cap i hE.out (RE.out.below BR) (by omega) hW.out hlO Z hrs b)
        replace B2 := seq_below B2 BR
        have BQ := Below.refl w1.heap.size w1
        have c1b := hid1 (fun w' (b : Below w1.heap.size w1 w') => right_at co hM.out (RM.out.below BR) (by omega) c (hrb.out.trans (sh_right E c d).symm) b)
        have c2b := hid1 (fun w' (b : Below w1.heap.size w1 w') => right_at cap hE.out (RE.out.below BR) (by omega) c hrb.out b)
        have hrr : (rb == rb) = true := by simp
        have hss : (rs == rs) = true := by simp
        clear hO O Z hrs hlO BR c3
        go_wp2_with (first | (go_at_call 8; with_reducible refine (c1b.out _ BQ).mono ?_; rintro r w5 ⟨rfl, b⟩; replace BQ := b; clear b) | (go_at_call 8; with_reducible refine (c2b.out _ BQ).mono ?_; rintro r w5 ⟨rfl, b⟩; replace BQ := b; clear b) | (go_at_call 15; with_reducible refine (c4.out _ BQ).mono ?_; rintro r w5 ⟨rfl, b⟩; replace BQ := b; clear b) | (go_at_call 15; with_reducible refine (c5.out _ BQ).mono ?_; rintro r w5 ⟨rfl, b⟩; replace BQ := b; clear b) | (go_at_call 10; with_reducible refine (awake_at BQ).mono ?_; rintro r w5 ⟨rfl, b⟩; replace BQ := b; clear b))
        go_ret
        exact ⟨rfl, seq_below B2 BQ⟩
end Go.Proofs.Ythihdaloonagoaa
