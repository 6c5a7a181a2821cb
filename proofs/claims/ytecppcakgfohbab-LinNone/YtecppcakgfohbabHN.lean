/- The reference's Respects. -/
import Derived.Test.YtecppcakgfohbabHM
namespace Go.Proofs.Ytecppcakgfohbab
open Go.RowKit Go.Sort
set_option linter.unusedSimpArgs false
set_option linter.unusedVariables false

/-- A row of bools. -/
def bolA (n : Nat) (p : Nat → Bool) : Array Value := Array.ofFn (n := n) fun i => .bool (p i.1)
theorem bolA_at (n : Nat) (p : Nat → Bool) (j : Nat) : (bolA n p)[j]? = if j < n then some (.bool (p j)) else none := by
  unfold bolA
  rw [Array.getElem?_ofFn]
  by_cases h : j < n
  · rw [dif_pos h, if_pos h]
  · rw [dif_neg h, if_neg h]
theorem bolA_made (n : Nat) : madeCells #[.bool false] n = bolA n fun _ => false := by
  apply Array.ext_getElem?
  intro j
  rw [bolA_at]
  by_cases hj : j < n
  · simp [madeCells, hj, Nat.mod_one]
  · simp [madeCells, hj]
theorem bolA_set {n k : Nat} (p : Nat → Bool) (hk : k < n) : (bolA n p).setIfInBounds k (.bool true) = bolA n fun j => p j || decide (j = k) := by
  have hs : (bolA n p).size = n := by simp [bolA]
  apply Array.ext_getElem?
  intro j
  rw [Array.getElem?_setIfInBounds, bolA_at, bolA_at, hs]
  by_cases e : k = j
  · subst e
    rw [if_pos rfl, if_pos hk, if_pos hk]
    simp
  · rw [if_neg e]
    have : decide (j = k) = false := decide_eq_false (Ne.symm e)
    rw [this, Bool.or_false]
theorem Try.info4' : (Try.prog.info? 4).map (fun i => (i.zero, i.size, i.bytes)) = some (some (.bool false), 1, 1) := by kernel_rfl
/-- The numbers that were met among the first k. -/
def Met (O : List Int) (k : Nat) (p : Nat → Bool) : Prop := ∀ x, p x = true ↔ ∃ j, j < k ∧ O[j]? = some (x : Int)
theorem Met.start (O : List Int) : Met O 0 fun _ => false := fun x => by
  constructor
  · intro h; cases h
  · rintro ⟨j, h, _⟩; omega
theorem Met.step {O : List Int} {k x : Nat} {p : Nat → Bool} (h : Met O k p) (hx : O[k]? = some (x : Int)) : Met O (k + 1) fun j => p j || decide (j = x) := fun y => by
  simp only [Bool.or_eq_true, decide_eq_true_eq]
  rw [h y]
  constructor
  · rintro (⟨j, hj, e⟩ | rfl)
    · exact ⟨j, by omega, e⟩
    · exact ⟨k, by omega, hx⟩
  · rintro ⟨j, hj, e⟩
    by_cases q : j = k
    · subst q; rw [hx] at e; right; have := Option.some.inj e; omega
    · exact .inl ⟨j, by omega, e⟩
theorem RdZ.at {w : World} {ad : Option Addr} {Z : List Int} (h : RdZ w ad Z) {i : Nat} {x : Int} (hx : Z[i]? = some x) : ∃ b off, ad = some ⟨b, off, none⟩ ∧ b < w.heap.size ∧ ∀ w', Below w.heap.size w w' → w'.cell? ⟨b, off + i, none⟩ = some (.int .i64 x) := by
  obtain ⟨b, off, h1, h2, h3⟩ := h i x hx
  exact ⟨b, off, h1, h2, fun w' k => (k.cell (p := ⟨b, off + i, none⟩) h2).trans h3⟩

set_option maxRecDepth 100000 in
set_option maxHeartbeats 16000000 in
theorem rresp_any {w : World} {ad ao : Option Addr} {n m : Nat} (cap capo : Nat) {E : List Ev} (hE : n = E.length) (hR : RdEv w ad E) (hn : n < 400000000) {O : List Int} (hO : m = O.length) (hZ : RdZ w ao O) :
    Calls Try.prog 10 #[.slice ad n cap, .slice ao m capo] w fun r w' => ∃ b : Bool, r = .returned (.bool b) ∧ (b = true ↔ RespP E O) ∧ Below w.heap.size w w' := by
  obtain ⟨rb, hrb⟩ := is_bool (RespP E O)
  refine Calls.mono (P := Try.prog) ?_ (fun (r : Ending) w' (h : r = .returned (.bool rb) ∧ Below w.heap.size w w') => ⟨rb, h.1, hrb, h.2⟩)
  replace hrb := hid1 hrb
  have hR := hid1 hR
  replace hZ := hid1 hZ
  have hmk : ∀ wr, (Instr.makeSlice 48 (.int .i64 (n : Nat)) (.int .i64 (n : Nat))).run Try.prog wr = .ok (.slice (some ⟨wr.heap.size, 0, none⟩) n n) (wr.alloc (.cells (bolA n fun _ => false) 4)) := fun wr => by
    rw [← bolA_made]
    exact run_make_row' 48 4 (.bool false) 1 Try.underlying48 Try.info4' rfl .i64 .i64 n (by omega) (by omega) wr
  by_cases hmn : m = n
  · have hne : ((m : Int) != (n : Int)) = false := by simp; omega
    have hg := new_obj w (.cells (bolA n fun _ => false) 4)
    have bG := alloc_below w (.cells (bolA n fun _ => false) 4)
    replace hE := hid1 hE
    replace hO := hid1 hO
    have hmb : m < 400000000 := by omega
    replace hmn := hid1 hmn
    go_enter Try.func10, Try.ntmps10
    go_upto_region 4 with fail
    generalize World.alloc _ _ = w2 at *
    obtain ⟨g, hgs⟩ : ∃ g, w.heap.size = g := ⟨_, rfl⟩
    have hgw := hid1 (show w.heap.size ≤ g by omega)
    rw [hgs] at hg ⊢
    clear hgs hmk
    have I0 := hid1 (And.intro hg bG)
    clear hg bG
    go_wp2
    go_loopg [6] m (fun g1 vi wr => ∃ (k : Nat) (p : Nat → Bool), vi = .int .i64 k ∧ k ≤ m ∧ m - k ≤ g1 ∧ Hid (wr.heap[g]? = some (.cells (bolA n p) 4 (0, 0)) ∧ Below w.heap.size w wr) ∧ Hid (Met O k p ∧ RsK E O k))
    case atStart => exact ⟨0, fun _ => false, by go_num, Nat.zero_le _, by omega, I0, hid1 ⟨Met.start O, RsK.start E O⟩⟩
    case round =>
      clear I0
      obtain ⟨k, p, rfl, hk, hg1, I, J⟩ := hrel
      by_cases hlt : k < m
      · have hltz : (k : Int) < (m : Int) := by omega
        obtain ⟨i, hi⟩ : ∃ x, O[k]? = some x := ⟨_, List.getElem?_eq_getElem (by have := hO.out; omega)⟩
        obtain ⟨bZ, oZ, ha, hb, hz⟩ := hZ.out.at hi
        subst ha
        have z0 := hz _ I.out.2
        clear hz hb
        replace hi := hid1 hi
        have stop1 : ¬ (0 ≤ i ∧ i < E.length) → rb = false := fun h => by
          cases hb : rb with
          | false => rfl
          | true => exact absurd ((hrb.out.1 hb).2.1 k i hi.out) h
        replace stop1 := hid1 stop1
        by_cases h1 : i < 0
        · have d1 : decide (i < 0) = true := decide_eq_true h1
          obtain rfl := stop1.out (by omega)
          go_wp2
          go_ret
          exact ⟨rfl, I.out.2⟩
        · have d1 : decide (i < 0) = false := decide_eq_false h1
          obtain ⟨x, hx⟩ : ∃ x : Nat, i = (x : Int) := ⟨i.toNat, by omega⟩
          subst hx
          by_cases h2 : (n : Int) ≤ (x : Int)
          · have d2 : decide ((n : Int) ≤ (x : Int)) = true := decide_eq_true h2
            obtain rfl := stop1.out (by have := hE.out; omega)
            go_wp2
            go_ret
            exact ⟨rfl, I.out.2⟩
          · have d2 : decide ((n : Int) ≤ (x : Int)) = false := decide_eq_false h2
            have hxn : x < n := by omega
            have hxz : (x : Int) < (n : Int) := by omega
            have c0 : wr.cell? ⟨g, x, none⟩ = some (.bool (p x)) := by
              simp only [World.cell?, I.out.1]
              show (bolA n p)[x]? = _
              rw [bolA_at, if_pos hxn]
            have f0 := cells_freeH I.out.1 x
            cases hp : p x with
            | true =>
              rw [hp] at c0
              have hr : rb = false := by
                cases hb : rb with
                | false => rfl
                | true =>
                  obtain ⟨j, hj, e⟩ := (J.out.1 x).1 hp
                  exact absurd rfl ((hrb.out.1 hb).2.2.1 j k _ _ e hi.out hj)
              subst hr
              go_wp2
              go_ret
              exact ⟨rfl, I.out.2⟩
            | false =>
              rw [hp] at c0
              have M2 := hid1 (J.out.1.step hi.out)
              have I2 := hid1 (show (wr.setCell ⟨g, x, none⟩ (.bool true)).heap[g]? = some (.cells (bolA n fun j => p j || decide (j = x)) 4 (0, 0)) ∧ Below w.heap.size w (wr.setCell ⟨g, x, none⟩ (.bool true)) from ⟨by rw [← bolA_set p hxn]; exact heap_putH I.out.1 _, I.out.2.setCell (p := ⟨g, x, none⟩) hgw.out _⟩)
              obtain ⟨f, hf⟩ : ∃ e, E[x]? = some e := ⟨_, List.getElem?_eq_getElem (by have := hE.out; omega)⟩
              have hnm : ∀ (j : Nat) (y : Int), j < k → O[j]? = some y → y ≠ (x : Int) := fun j y hj hy e => by
                subst e
                have := (J.out.1 x).2 ⟨j, hj, hy⟩
                rw [hp] at this; cases this
              replace hnm := hid1 hnm
              obtain ⟨bE, oE, ha, hbE, hcf⟩ := hR.out.at hf
              subst ha
              replace hcf := hid1 hcf
              replace hf := hid1 hf
              replace hp := hid1 hp
              go_upto_region 11 with fail
              generalize wr.setCell ⟨g, x, none⟩ (.bool true) = w3 at *
              clear z0 c0 f0 I
              go_wp2
              go_loopg [8] k (fun g2 vj wr => ∃ (j : Nat), vj = .int .i64 j ∧ j ≤ k ∧ k - j ≤ g2 ∧ Hid (Below w3.heap.size w3 wr) ∧ Hid (∀ (t : Nat) (y : Int) (e : Ev), t < j → O[t]? = some y → E[y.toNat]? = some e → e.bg ≤ f.en))
              case atStart => exact ⟨0, by go_num, Nat.zero_le _, by omega, hid1 (Below.refl _ _), hid1 (fun t y e h => by omega)⟩
              case round =>
                obtain ⟨j, rfl, hj, hg2, b3, K⟩ := hrel
                by_cases hlj : j < k
                · have hljz : (j : Int) < (k : Int) := by omega
                  have hljm : (j : Int) < (m : Int) := by omega
                  obtain ⟨v, hv⟩ : ∃ v, O[j]? = some v := ⟨_, List.getElem?_eq_getElem (by have := hO.out; omega)⟩
                  obtain ⟨hv0, hv1⟩ := J.out.2.rg j v hlj hv
                  obtain ⟨y, hy⟩ : ∃ y : Nat, v = (y : Int) := ⟨v.toNat, by omega⟩
                  subst hy
                  have hyz : (y : Int) < (n : Int) := by have := hE.out; omega
                  obtain ⟨e, he⟩ : ∃ e, E[y]? = some e := ⟨_, List.getElem?_eq_getElem (by omega)⟩
                  obtain ⟨bZ', oZ', ha, hbZ, hz⟩ := hZ.out.at hv
                  simp only [Option.some.injEq, Addr.mk.injEq] at ha
                  obtain ⟨rfl, rfl, -⟩ := ha
                  obtain ⟨bE', oE', ha, hbE', hce⟩ := hR.out.at he
                  simp only [Option.some.injEq, Addr.mk.injEq] at ha
                  obtain ⟨rfl, rfl, -⟩ := ha
                  have bb := seq_below I2.out.2 b3.out
                  have k1 := hid1 (fun w' (b : Below wr.heap.size wr w') => hz w' (seq_below bb b))
                  have k2 := hid1 (fun w' (b : Below wr.heap.size wr w') => hce w' (seq_below bb b))
                  have k3 := hid1 (fun w' (b : Below wr.heap.size wr w') => hcf.out w' (seq_below bb b))
                  replace hv := hid1 hv
                  replace he := hid1 he
                  clear hz hce hbZ hbE' hv0 hv1
                  obtain ⟨ra, hra⟩ : ∃ ra, ahB f e = ra := ⟨_, rfl⟩
                  have ca : ∀ w, Calls Try.prog 18 #[.agg #[.int .i64 f.cl, .int .i64 f.op, .int .i64 f.bg, .int .i64 f.pt, .int .i64 f.en, .bool f.bh, .int .i64 f.kd, .int .i64 f.nn, .int .u64 (f.hh : Nat), .int .u64 (f.hx : Nat), .int .u64 (f.hy : Nat), .int .i64 f.er, .int .u64 (f.ah : Nat), .bool f.ay], .agg #[.int .i64 e.cl, .int .i64 e.op, .int .i64 e.bg, .int .i64 e.pt, .int .i64 e.en, .bool e.bh, .int .i64 e.kd, .int .i64 e.nn, .int .u64 (e.hh : Nat), .int .u64 (e.hx : Nat), .int .u64 (e.hy : Nat), .int .i64 e.er, .int .u64 (e.ah : Nat), .bool e.ay]] w fun r w' => r = .returned (.bool ra) ∧ Below w.heap.size w w' := fun w => by rw [← hra]; exact rahead_any f e w
                  replace ca := hid1 ca
                  unfold ahB at hra
                  replace hra := hid1 hra
                  replace bb := hid1 bb
                  cases ra with
                  | true =>
                    go_upto_region 14 with fail
                    refine region_below (by kernel_rfl) (by kernel_rfl) ?_
                    repeat (first | go_big_quiet_skip | (go_big_quiet_want; go_big_quiet_op; first | go_big_quiet_on | (refine ⟨_, fun _ _ => rfl, ?_⟩; go_big_quiet_on) | (refine ⟨.int .i64 (y : Int), ?_, ?_⟩; (focus (intro w' hw'; have l := k1.out w' hw'; simp [l, Result.andThen]; done)); go_big_quiet_on) | (refine ⟨.agg #[.int .i64 e.cl, .int .i64 e.op, .int .i64 e.bg, .int .i64 e.pt, .int .i64 e.en, .bool e.bh, .int .i64 e.kd, .int .i64 e.nn, .int .u64 (e.hh : Nat), .int .u64 (e.hx : Nat), .int .u64 (e.hy : Nat), .int .i64 e.er, .int .u64 (e.ah : Nat), .bool e.ay], ?_, ?_⟩; (focus (intro w' hw'; obtain ⟨l0, l1, l2, l3, l4, l5, l6, l7, l8, l9, l10, l11, l12, l13⟩ := k2.out w' hw'; simp [l0, l1, l2, l3, l4, l5, l6, l7, l8, l9, l10, l11, l12, l13, Result.andThen]; done)); go_big_quiet_on) | (refine ⟨.agg #[.int .i64 f.cl, .int .i64 f.op, .int .i64 f.bg, .int .i64 f.pt, .int .i64 f.en, .bool f.bh, .int .i64 f.kd, .int .i64 f.nn, .int .u64 (f.hh : Nat), .int .u64 (f.hx : Nat), .int .u64 (f.hy : Nat), .int .i64 f.er, .int .u64 (f.ah : Nat), .bool f.ay], ?_, ?_⟩; (focus (intro w' hw'; obtain ⟨l0, l1, l2, l3, l4, l5, l6, l7, l8, l9, l10, l11, l12, l13⟩ := k3.out w' hw'; simp [l0, l1, l2, l3, l4, l5, l6, l7, l8, l9, l10, l11, l12, l13, Result.andThen]; done)); go_big_quiet_on) | (with_reducible refine ⟨_, (fun w' hw' => (ca.out w').mono fun _ _ ⟨he, hb⟩ => ⟨he, seq_below hw' hb⟩), ?_⟩; go_big_quiet_on)))
                    refine wpQuiet_nil ?_
                    intro w8 hb8
                    have hr : rb = false := by
                      cases hb : rb with
                      | false => rfl
                      | true => exact absurd (of_decide_eq_true hra.out) ((hrb.out.1 hb).2.2.2 j k _ _ e f hv.out hi.out hlj he.out hf.out)
                    subst hr
                    go_wp2
                    go_ret
                    exact ⟨rfl, seq_below bb.out hb8⟩
                  | false =>
                    go_upto_region 14 with fail
                    refine region_below (by kernel_rfl) (by kernel_rfl) ?_
                    repeat (first | go_big_quiet_skip | (go_big_quiet_want; go_big_quiet_op; first | go_big_quiet_on | (refine ⟨_, fun _ _ => rfl, ?_⟩; go_big_quiet_on) | (refine ⟨.int .i64 (y : Int), ?_, ?_⟩; (focus (intro w' hw'; have l := k1.out w' hw'; simp [l, Result.andThen]; done)); go_big_quiet_on) | (refine ⟨.agg #[.int .i64 e.cl, .int .i64 e.op, .int .i64 e.bg, .int .i64 e.pt, .int .i64 e.en, .bool e.bh, .int .i64 e.kd, .int .i64 e.nn, .int .u64 (e.hh : Nat), .int .u64 (e.hx : Nat), .int .u64 (e.hy : Nat), .int .i64 e.er, .int .u64 (e.ah : Nat), .bool e.ay], ?_, ?_⟩; (focus (intro w' hw'; obtain ⟨l0, l1, l2, l3, l4, l5, l6, l7, l8, l9, l10, l11, l12, l13⟩ := k2.out w' hw'; simp [l0, l1, l2, l3, l4, l5, l6, l7, l8, l9, l10, l11, l12, l13, Result.andThen]; done)); go_big_quiet_on) | (refine ⟨.agg #[.int .i64 f.cl, .int .i64 f.op, .int .i64 f.bg, .int .i64 f.pt, .int .i64 f.en, .bool f.bh, .int .i64 f.kd, .int .i64 f.nn, .int .u64 (f.hh : Nat), .int .u64 (f.hx : Nat), .int .u64 (f.hy : Nat), .int .i64 f.er, .int .u64 (f.ah : Nat), .bool f.ay], ?_, ?_⟩; (focus (intro w' hw'; obtain ⟨l0, l1, l2, l3, l4, l5, l6, l7, l8, l9, l10, l11, l12, l13⟩ := k3.out w' hw'; simp [l0, l1, l2, l3, l4, l5, l6, l7, l8, l9, l10, l11, l12, l13, Result.andThen]; done)); go_big_quiet_on) | (with_reducible refine ⟨_, (fun w' hw' => (ca.out w').mono fun _ _ ⟨he, hb⟩ => ⟨he, seq_below hw' hb⟩), ?_⟩; go_big_quiet_on)))
                    refine wpQuiet_nil ?_
                    intro w8 hb8
                    replace hb8 := hid1 hb8
                    go_wp2
                    go_roundg (k - (j + 1))
                    case measure => omega
                    case rel => exact ⟨j + 1, by go_num, by omega, Nat.le_refl _, hid1 (seq_below b3.out hb8.out), hid1 (fun t z e1 ht h1 h2 => by
                      by_cases q : t = j
                      · subst q
                        rw [hv.out] at h1; obtain rfl := Option.some.inj h1
                        rw [Int.toNat_natCast, he.out] at h2; obtain rfl := Option.some.inj h2
                        exact Int.not_lt.1 (of_decide_eq_false hra.out)
                      · exact K.out t z e1 (by omega) h1 h2)⟩
                · obtain rfl : j = k := by omega
                  have hljz : ¬ (j : Int) < (j : Int) := by omega
                  go_wp2
                  go_roundg (m - (j + 1))
                  case measure => omega
                  case rel => exact ⟨j + 1, _, by go_num, by omega, Nat.le_refl _, hid1 ⟨(b3.out.block _ (lt_of_block I2.out.1)).trans I2.out.1, seq_below I2.out.2 b3.out⟩, hid1 ⟨M2.out, J.out.2.step hi.out (by have := hE.out; omega) hnm.out (by rw [Int.toNat_natCast]; exact hf.out) fun t z e1 h1 h2 h3 => Int.not_lt.2 (K.out t z e1 h1 h2 h3)⟩⟩
      · obtain rfl : k = m := by omega
        have hltz : ¬ (k : Int) < (k : Int) := by omega
        have hr : rb = true := hrb.out.2 (RsK.all (by rw [← hO.out]; exact J.out.2) (by rw [← hO.out, hmn.out, hE.out]))
        subst hr
        go_wp2
        go_ret
        exact ⟨rfl, I.out.2⟩
  · have hne : ((m : Int) != (n : Int)) = true := by simp; omega
    have hr : rb = false := by
      cases hb : rb with
      | false => rfl
      | true => exact absurd (hrb.out.1 hb).1 (by omega)
    subst hr
    clear hmk
    go_enter Try.func10, Try.ntmps10
    go_wp2
    go_ret
    exact ⟨rfl, Below.refl _ _⟩
end Go.Proofs.Ytecppcakgfohbab
