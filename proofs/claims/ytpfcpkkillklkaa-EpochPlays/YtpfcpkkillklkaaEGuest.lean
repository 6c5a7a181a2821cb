/- Contracts of a guest's step, one a way. -/
import Derived.Test.YtpfcpkkillklkaaEAwake
namespace Go.Proofs.Ytpfcpkkillklkaa
open Go.RowKit
open Mm (IsMem MS zeroMS)

/-- The row of guests. -/
def IsRow (w : World) (L : Nat) (cur : Array Value) : Prop := w.heap[L]? = some (.cells cur 37 (0, 0))
theorem IsRow.cell {w : World} {L : Nat} {cur : Array Value} (h : IsRow w L cur) {i : Nat} {v : Value} (hv : cur[i]? = some v) : w.cell? ⟨L, i, none⟩ = some v := by
  have h' : w.heap[L]? = _ := h
  simp only [World.cell?, h']
  exact hv
theorem IsRow.free {w : World} {L : Nat} {cur : Array Value} (h : IsRow w L cur) (i : Nat) : w.frozen? ⟨L, i, none⟩ = false := by
  have h' : w.heap[L]? = _ := h
  simp [World.frozen?, h']
theorem IsRow.lt {w : World} {L : Nat} {cur : Array Value} (h : IsRow w L cur) : L < w.heap.size := lt_of_block h
theorem IsRow.below {w w' : World} {L : Nat} {cur : Array Value} (h : IsRow w L cur) (b : Below w.heap.size w w') : IsRow w' L cur := (b.block L h.lt).trans h
theorem IsRow.chg {l : List Nat} {w w' : World} {L : Nat} {cur : Array Value} (h : IsRow w L cur) (b : Chg l w w') (hn : L ∉ l) : IsRow w' L cur := b.at h hn
theorem IsRow.set {w : World} {L : Nat} {cur : Array Value} (h : IsRow w L cur) (i : Nat) (v : Value) : IsRow (w.setCell ⟨L, i, none⟩ v) L (cur.setIfInBounds i v) := Mm.heap_setCell_at h v

/-- The five cells of a guest. -/
structure G5 (cur : Array Value) (o : Nat) (v0 v1 v2 v3 v4 : Value) : Prop where
  c0 : cur[o]? = some v0
  c1 : cur[o + 1]? = some v1
  c2 : cur[o + 2]? = some v2
  c3 : cur[o + 3]? = some v3
  c4 : cur[o + 4]? = some v4


theorem setL {w : World} {K : Cf} {M G L ep : Nat} {pins : Nat → Nat} {T : Int} (h : MemE w M G K ep pins T) (lm : L ≠ M) (lg : L ≠ G) (i : Nat) (v : Value) : MemE (w.setCell ⟨L, i, none⟩ v) M G K ep pins T :=
  h.chg ((Chg.refl [L] w).setCell (by simp) v) (by simp [Ne.symm lm]) (by simp [Ne.symm lg])
theorem pinL {w : World} {P k E : Nat} {pc : Int} {e L : Nat} (h : PinAt w P k E pc e) (hn : P ≠ L) (i : Nat) (v : Value) : PinAt (w.setCell ⟨L, i, none⟩ v) P k E pc e := h.chg ((Chg.refl [L] w).setCell (by simp) v) (by simp [hn])

set_option maxHeartbeats 2000000 in
/-- It stays. -/
theorem guest_stay {w : World} {K : Cf} {M G L o ep : Nat} {pins : Nat → Nat} {T : Int} {cur : Array Value} {i : Nat} {st : Int} {e : Nat} {t : Int} (hm : MemE w M G K ep pins T) (hr : IsRow w L cur) (hT : 0 ≤ T ∧ T < 1000000) (lm : L ≠ M) (lg : L ≠ G) (h5 : G5 cur o (.pointer none) (.pointer none) (.bool true) (.int .u64 (e : Nat)) (.int .i64 t)) (ht : 0 < t ∧ t < 100) :
    Calls Try.prog 12 #[.pointer (some ⟨L, o, none⟩), .agg K.cs, .pointer (some ⟨M, 0, none⟩), .int .i64 (i : Nat), .int .i64 st] w fun r w' => r = .returned (.bool true) ∧ MemE w' M G K ep pins T ∧ IsRow w' L (cur.setIfInBounds (o + 4) (.int .i64 (t - 1))) ∧ Chg [L] w w' := by
  unfold Cf.cs at *
  have bel := alloc_below w (.cells #[.int .i64 (K.S : Nat), .int .i64 K.a, .int .i64 (K.C : Nat), .int .i64 (K.D : Nat), .int .i64 K.g, .int .i64 K.k] 23)
  have hh := cfg_new w K.S K.a K.C K.D K.g K.k
  replace hm := hm.below bel
  replace hr := hr.below bel
  have ch : Chg [L] w _ := Chg.of_below bel
  go_enter Try.func12, Try.ntmps12
  go_upto_region 1 with fail
  generalize w.alloc (.cells #[.int .i64 (K.S : Nat), .int .i64 K.a, .int .i64 (K.C : Nat), .int .i64 (K.D : Nat), .int .i64 K.g, .int .i64 K.k] 23) = w0 at *
  have c13 := touches_E hm
  have d0 := hr.cell h5.c0
  have d1 := hr.cell h5.c1
  have d2 := hr.cell h5.c2
  have d3 := hr.cell h5.c3
  have d4 := hr.cell h5.c4
  have fz := hr.free
  go_upto_region 17 with (go_at_call 13; with_reducible refine c13.mono ?_; rintro e w1 ⟨rfl, rfl⟩)
  replace hm := setL hm lm lg (o + 4) (.int .i64 (t - 1))
  replace hr := hr.set (o + 4) (.int .i64 (t - 1))
  replace ch := ch.setCell (b := L) (o := o + 4) (.inl (by simp)) (.int .i64 (t - 1))
  clear d0 d1 d2 d3 d4 fz c13
  generalize w0.setCell ⟨L, o + 4, none⟩ (.int .i64 (t - 1)) = w3 at *
  have c13 := touches_E hm
  have hTT : T ≤ T + 1 := by omega
  go_wp2_with (go_at_call 13; with_reducible refine c13.mono ?_; rintro e w9 ⟨rfl, rfl⟩)
  go_ret
  exact ⟨rfl, hm, hr, ch⟩

set_option maxHeartbeats 2000000 in
/-- It is about to leave. -/
theorem guest_leaves {w : World} {K : Cf} {M G L o ep : Nat} {pins : Nat → Nat} {T : Int} {cur : Array Value} {i : Nat} {st : Int} (hK : K.Ok) {e : Nat} (hm : MemE w M G K ep pins T) (hr : IsRow w L cur) (hT : 0 ≤ T ∧ T < 1000000) (lm : L ≠ M) (lg : L ≠ G) (h5 : G5 cur o (.pointer none) (.pointer none) (.bool true) (.int .u64 (e : Nat)) (.int .i64 0)) (hi : i < K.C) :
    Calls Try.prog 12 #[.pointer (some ⟨L, o, none⟩), .agg K.cs, .pointer (some ⟨M, 0, none⟩), .int .i64 (i : Nat), .int .i64 st] w fun r w' => ∃ Q, r = .returned (.bool true) ∧ MemE w' M G K ep pins T ∧ IsRow w' L (cur.setIfInBounds (o + 1) (.pointer (some ⟨Q, 0, none⟩))) ∧ LeaveAt w' Q i 0 ∧ w.heap.size ≤ Q ∧ Chg [L] w w' := by
  have c18 := newLeave_K hK i hi
  unfold Cf.cs at *
  have bel := alloc_below w (.cells #[.int .i64 (K.S : Nat), .int .i64 K.a, .int .i64 (K.C : Nat), .int .i64 (K.D : Nat), .int .i64 K.g, .int .i64 K.k] 23)
  have hh := cfg_new w K.S K.a K.C K.D K.g K.k
  replace hm := hm.below bel
  replace hr := hr.below bel
  have ch : Chg [L] w _ := Chg.of_below bel
  go_enter Try.func12, Try.ntmps12
  go_upto_region 1 with fail
  generalize w.alloc (.cells #[.int .i64 (K.S : Nat), .int .i64 K.a, .int .i64 (K.C : Nat), .int .i64 (K.D : Nat), .int .i64 K.g, .int .i64 K.k] 23) = w0 at *
  have c13 := touches_E hm
  have d0 := hr.cell h5.c0
  have d1 := hr.cell h5.c1
  have d2 := hr.cell h5.c2
  have d3 := hr.cell h5.c3
  have d4 := hr.cell h5.c4
  have fz := hr.free
  obtain ⟨l0, l1, l2, l3, l4, l5⟩ := hh.cells
  go_upto_region 17 with (first
    | (go_at_call 13; with_reducible refine c13.mono ?_; rintro e w1 ⟨rfl, rfl⟩)
    | (go_at_call 18; with_reducible refine (c18 _).mono ?_; rintro r w2 ⟨Q, rfl, hq, hQ, hb⟩; have hrl := hr.lt; replace hm := hm.below hb; replace hr := hr.below hb; replace ch := ch.then_below hb; clear d0 d1 d2 d3 d4 fz; have d1 := hr.cell h5.c1; have fz := hr.free))
  have hqL : Q ≠ L := by omega
  have hws := bel.size
  replace hm := setL hm lm lg (o + 1) (.pointer (some ⟨Q, 0, none⟩))
  replace hr := hr.set (o + 1) (.pointer (some ⟨Q, 0, none⟩))
  replace hq := hq.chg ((Chg.refl [L] w2).setCell (b := L) (o := o + 1) (by simp) (.pointer (some ⟨Q, 0, none⟩))) (by simp [hqL])
  replace ch := ch.setCell (b := L) (o := o + 1) (.inl (by simp)) (.pointer (some ⟨Q, 0, none⟩))
  clear d1 fz c13 hb hrl l0 l1 l2 l3 l4 l5
  generalize w2.setCell ⟨L, o + 1, none⟩ (.pointer (some ⟨Q, 0, none⟩)) = w3 at *
  have c13 := touches_E hm
  have hTT : T ≤ T + 1 := by omega
  go_wp2_with (go_at_call 13; with_reducible refine c13.mono ?_; rintro e w9 ⟨rfl, rfl⟩)
  go_ret
  exact ⟨Q, rfl, hm, hr, hq, by omega, ch⟩

set_option maxHeartbeats 2000000 in
/-- It begins to pin itself. -/
theorem guest_begins {w : World} {K : Cf} {M G L o ep : Nat} {pins : Nat → Nat} {T : Int} {cur : Array Value} {i : Nat} {st : Int} (hK : K.Ok) {v3 v4 : Value} (hm : MemE w M G K ep pins T) (hr : IsRow w L cur) (hT : 0 ≤ T ∧ T < 1000000) (lm : L ≠ M) (lg : L ≠ G) (h5 : G5 cur o (.pointer none) (.pointer none) (.bool false) v3 v4) (hi : i < K.C) :
    Calls Try.prog 12 #[.pointer (some ⟨L, o, none⟩), .agg K.cs, .pointer (some ⟨M, 0, none⟩), .int .i64 (i : Nat), .int .i64 st] w fun r w' => ∃ Q, r = .returned (.bool true) ∧ MemE w' M G K ep pins T ∧ IsRow w' L (cur.setIfInBounds o (.pointer (some ⟨Q, 0, none⟩))) ∧ PinAt w' Q i 0 0 0 ∧ w.heap.size ≤ Q ∧ Chg [L] w w' := by
  have c16 := newPin_K hK i hi
  unfold Cf.cs at *
  have bel := alloc_below w (.cells #[.int .i64 (K.S : Nat), .int .i64 K.a, .int .i64 (K.C : Nat), .int .i64 (K.D : Nat), .int .i64 K.g, .int .i64 K.k] 23)
  have hh := cfg_new w K.S K.a K.C K.D K.g K.k
  replace hm := hm.below bel
  replace hr := hr.below bel
  have ch : Chg [L] w _ := Chg.of_below bel
  go_enter Try.func12, Try.ntmps12
  go_upto_region 1 with fail
  generalize w.alloc (.cells #[.int .i64 (K.S : Nat), .int .i64 K.a, .int .i64 (K.C : Nat), .int .i64 (K.D : Nat), .int .i64 K.g, .int .i64 K.k] 23) = w0 at *
  have c13 := touches_E hm
  have d0 := hr.cell h5.c0
  have d1 := hr.cell h5.c1
  have d2 := hr.cell h5.c2
  have d3 := hr.cell h5.c3
  have d4 := hr.cell h5.c4
  have fz := hr.free
  obtain ⟨l0, l1, l2, l3, l4, l5⟩ := hh.cells
  go_upto_region 17 with (first
    | (go_at_call 13; with_reducible refine c13.mono ?_; rintro e w1 ⟨rfl, rfl⟩)
    | (go_at_call 16; with_reducible refine (c16 _).mono ?_; rintro r w2 ⟨Q, rfl, hq, hQ, hb⟩; have hrl := hr.lt; replace hm := hm.below hb; replace hr := hr.below hb; replace ch := ch.then_below hb; clear d0 d1 d2 d3 d4 fz; have d0 := hr.cell h5.c0; have fz := hr.free))
  have hqL : Q ≠ L := by omega
  have hws := bel.size
  replace hm := setL hm lm lg o (.pointer (some ⟨Q, 0, none⟩))
  replace hr := hr.set o (.pointer (some ⟨Q, 0, none⟩))
  replace hq := hq.chg ((Chg.refl [L] w2).setCell (b := L) (o := o) (by simp) (.pointer (some ⟨Q, 0, none⟩))) (by simp [hqL])
  replace ch := ch.setCell (b := L) (o := o) (.inl (by simp)) (.pointer (some ⟨Q, 0, none⟩))
  clear d0 fz c13 hb hrl l0 l1 l2 l3 l4 l5
  generalize w2.setCell ⟨L, o, none⟩ (.pointer (some ⟨Q, 0, none⟩)) = w3 at *
  have c13 := touches_E hm
  have hTT : T ≤ T + 1 := by omega
  go_wp2_with (go_at_call 13; with_reducible refine c13.mono ?_; rintro e w9 ⟨rfl, rfl⟩)
  go_ret
  exact ⟨Q, rfl, hm, hr, hq, by omega, ch⟩

set_option maxHeartbeats 2000000 in
/-- It goes a step on to be pinned. -/
theorem guest_pins {w : World} {K : Cf} {M G L o ep : Nat} {pins : Nat → Nat} {T : Int} {cur : Array Value} {i : Nat} {st : Int} {v3 v4 : Value} {P E E' x x' : Nat} {pc pc' : Int} {pins' : Nat → Nat} (hm : MemE w M G K ep pins T) (hr : IsRow w L cur) (hT : 0 ≤ T ∧ T < 1000000) (lm : L ≠ M) (lg : L ≠ G) (h5 : G5 cur o (.pointer (some ⟨P, 0, none⟩)) (.pointer none) (.bool false) v3 v4) (hp : PinAt w P i E pc x) (hPL : P ≠ L)
    (c17 : ∀ wq, MemE wq M G K ep pins T → PinAt wq P i E pc x → Calls Try.prog 17 #[.pointer (some ⟨P, 0, none⟩), .pointer (some ⟨M, 0, none⟩)] wq fun r w' => r = .returned (.bool false) ∧ MemE w' M G K ep pins' (T + 1) ∧ PinAt w' P i E' pc' x' ∧ Chg [P, M, G] wq w') :
    Calls Try.prog 12 #[.pointer (some ⟨L, o, none⟩), .agg K.cs, .pointer (some ⟨M, 0, none⟩), .int .i64 (i : Nat), .int .i64 st] w fun r w' => r = .returned (.bool true) ∧ MemE w' M G K ep pins' (T + 1) ∧ IsRow w' L cur ∧ PinAt w' P i E' pc' x' ∧ Chg [P, M, G] w w' := by
  unfold Cf.cs at *
  have bel := alloc_below w (.cells #[.int .i64 (K.S : Nat), .int .i64 K.a, .int .i64 (K.C : Nat), .int .i64 (K.D : Nat), .int .i64 K.g, .int .i64 K.k] 23)
  have hh := cfg_new w K.S K.a K.C K.D K.g K.k
  replace hm := hm.below bel
  replace hr := hr.below bel
  replace hp := hp.below bel
  have ch : Chg [P, M, G] w _ := Chg.of_below bel
  go_enter Try.func12, Try.ntmps12
  go_upto_region 1 with fail
  generalize w.alloc (.cells #[.int .i64 (K.S : Nat), .int .i64 K.a, .int .i64 (K.C : Nat), .int .i64 (K.D : Nat), .int .i64 K.g, .int .i64 K.k] 23) = w0 at *
  have c13 := touches_E hm
  have d0 := hr.cell h5.c0
  have d1 := hr.cell h5.c1
  have d2 := hr.cell h5.c2
  have d3 := hr.cell h5.c3
  have d4 := hr.cell h5.c4
  have fz := hr.free
  replace c17 := c17 w0 hm hp
  go_upto_region 17 with (first
    | (go_at_call 13; with_reducible refine c13.mono ?_; rintro e w1 ⟨rfl, rfl⟩)
    | (go_at_call 17; with_reducible refine c17.mono ?_; rintro r w2 ⟨rfl, hm2, hp2, ch2⟩))
  clear hm hp
  have hm := hm2
  replace ch := ch.trans ch2
  replace hr := hr.chg ch2 (by simp [Ne.symm hPL, lm, lg])
  clear d0 d1 d2 d3 d4 fz c13
  have c13 := touches_E hm
  have hTT : T ≤ T + 1 := by omega
  go_wp2_with (go_at_call 13; with_reducible refine c13.mono ?_; rintro e w9 ⟨rfl, rfl⟩)
  go_ret
  exact ⟨rfl, hm, hr, hp2, ch⟩

set_option maxHeartbeats 2000000 in
/-- It is pinned. -/
theorem guest_pinned {w : World} {K : Cf} {M G L o ep : Nat} {pins : Nat → Nat} {T : Int} {cur : Array Value} {i : Nat} {st : Int} {v3 v4 : Value} {P E E' x x' : Nat} {pc pc' : Int} {pins' : Nat → Nat} (hm : MemE w M G K ep pins T) (hr : IsRow w L cur) (hT : 0 ≤ T ∧ T < 1000000) (lm : L ≠ M) (lg : L ≠ G) (h5 : G5 cur o (.pointer (some ⟨P, 0, none⟩)) (.pointer none) (.bool false) v3 v4) (hp : PinAt w P i E pc x) (hPL : P ≠ L)
    (c17 : ∀ wq, MemE wq M G K ep pins T → PinAt wq P i E pc x → Calls Try.prog 17 #[.pointer (some ⟨P, 0, none⟩), .pointer (some ⟨M, 0, none⟩)] wq fun r w' => r = .returned (.bool true) ∧ MemE w' M G K ep pins' (T + 1) ∧ PinAt w' P i E' pc' x' ∧ Chg [P, M, G] wq w') :
    Calls Try.prog 12 #[.pointer (some ⟨L, o, none⟩), .agg K.cs, .pointer (some ⟨M, 0, none⟩), .int .i64 (i : Nat), .int .i64 st] w fun r w' => r = .returned (.bool true) ∧ MemE w' M G K ep pins' (T + 1) ∧ IsRow w' L ((((cur.setIfInBounds (o + 2) (.bool true)).setIfInBounds (o + 3) (.int .u64 (E' : Nat))).setIfInBounds (o + 4) (.int .i64 st)).setIfInBounds o (.pointer none)) ∧ Chg [P, M, G, L] w w' := by
  unfold Cf.cs at *
  have bel := alloc_below w (.cells #[.int .i64 (K.S : Nat), .int .i64 K.a, .int .i64 (K.C : Nat), .int .i64 (K.D : Nat), .int .i64 K.g, .int .i64 K.k] 23)
  have hh := cfg_new w K.S K.a K.C K.D K.g K.k
  replace hm := hm.below bel
  replace hr := hr.below bel
  replace hp := hp.below bel
  have ch : Chg [P, M, G, L] w _ := Chg.of_below bel
  go_enter Try.func12, Try.ntmps12
  go_upto_region 1 with fail
  generalize w.alloc (.cells #[.int .i64 (K.S : Nat), .int .i64 K.a, .int .i64 (K.C : Nat), .int .i64 (K.D : Nat), .int .i64 K.g, .int .i64 K.k] 23) = w0 at *
  have c13 := touches_E hm
  have d0 := hr.cell h5.c0
  have d1 := hr.cell h5.c1
  have d2 := hr.cell h5.c2
  have d3 := hr.cell h5.c3
  have d4 := hr.cell h5.c4
  have fz := hr.free
  replace c17 := c17 w0 hm hp
  go_upto_region 3 with (first
    | (go_at_call 13; with_reducible refine c13.mono ?_; rintro e w1 ⟨rfl, rfl⟩)
    | (go_at_call 17; with_reducible refine c17.mono ?_; rintro r w2 ⟨rfl, hm2, hp2, ch2⟩))
  clear hm hp
  have hm := hm2
  replace ch := ch.trans (ch2.mono fun b hb => .inl (by simp at hb ⊢; omega))
  replace hr := hr.chg ch2 (by simp [Ne.symm hPL, lm, lg])
  clear d0 d1 d2 d3 d4 fz c13
  have d0 := hr.cell h5.c0
  have d1 := hr.cell h5.c1
  have d2 := hr.cell h5.c2
  have d3 := hr.cell h5.c3
  have d4 := hr.cell h5.c4
  have fz := hr.free
  have z0 := hp2.cells.1
  go_upto_region 17 with fail
  replace hm := setL (setL (setL (setL hm lm lg (o + 2) (.bool true)) lm lg (o + 3) (.int .u64 (E' : Nat))) lm lg (o + 4) (.int .i64 st)) lm lg o (.pointer none)
  replace hr := (((hr.set (o + 2) (.bool true)).set (o + 3) (.int .u64 (E' : Nat))).set (o + 4) (.int .i64 st)).set o (.pointer none)
  replace ch := (((ch.setCell (b := L) (o := o + 2) (.inl (by simp)) (.bool true)).setCell (b := L) (o := o + 3) (.inl (by simp)) (.int .u64 (E' : Nat))).setCell (b := L) (o := o + 4) (.inl (by simp)) (.int .i64 st)).setCell (b := L) (o := o) (.inl (by simp)) (.pointer none)
  clear d0 d1 d2 d3 d4 fz z0 hp2 hm2
  generalize (((w2.setCell ⟨L, o + 2, none⟩ (.bool true)).setCell ⟨L, o + 3, none⟩ (.int .u64 (E' : Nat))).setCell ⟨L, o + 4, none⟩ (.int .i64 st)).setCell ⟨L, o, none⟩ (.pointer none) = w3 at *
  have c13 := touches_E hm
  have hTT : T ≤ T + 1 := by omega
  go_wp2_with (go_at_call 13; with_reducible refine c13.mono ?_; rintro e w9 ⟨rfl, rfl⟩)
  go_ret
  exact ⟨rfl, hm, hr, ch⟩

set_option maxHeartbeats 2000000 in
/-- It leaves. -/
theorem guest_left {w : World} {K : Cf} {M G L o ep : Nat} {pins : Nat → Nat} {T : Int} {cur : Array Value} {i : Nat} {st : Int} {v3 v4 : Value} {Q : Nat} (hm : MemE w M G K ep pins T) (hr : IsRow w L cur) (hT : 0 ≤ T ∧ T < 1000000) (lm : L ≠ M) (lg : L ≠ G) (h5 : G5 cur o (.pointer none) (.pointer (some ⟨Q, 0, none⟩)) (.bool true) v3 v4) (hp : LeaveAt w Q i 0) (hPL : Q ≠ L) (h1 : Q ≠ M) (h2 : Q ≠ G) (hi : i < K.C) :
    Calls Try.prog 12 #[.pointer (some ⟨L, o, none⟩), .agg K.cs, .pointer (some ⟨M, 0, none⟩), .int .i64 (i : Nat), .int .i64 st] w fun r w' => r = .returned (.bool true) ∧ MemE w' M G K ep (upd pins i 0) (T + 1) ∧ IsRow w' L ((cur.setIfInBounds (o + 2) (.bool false)).setIfInBounds (o + 1) (.pointer none)) ∧ Chg [Q, M, G, L] w w' := by
  unfold Cf.cs at *
  have bel := alloc_below w (.cells #[.int .i64 (K.S : Nat), .int .i64 K.a, .int .i64 (K.C : Nat), .int .i64 (K.D : Nat), .int .i64 K.g, .int .i64 K.k] 23)
  have hh := cfg_new w K.S K.a K.C K.D K.g K.k
  replace hm := hm.below bel
  replace hr := hr.below bel
  replace hp := hp.below bel
  have ch : Chg [Q, M, G, L] w _ := Chg.of_below bel
  go_enter Try.func12, Try.ntmps12
  go_upto_region 1 with fail
  generalize w.alloc (.cells #[.int .i64 (K.S : Nat), .int .i64 K.a, .int .i64 (K.C : Nat), .int .i64 (K.D : Nat), .int .i64 K.g, .int .i64 K.k] 23) = w0 at *
  have c13 := touches_E hm
  have d0 := hr.cell h5.c0
  have d1 := hr.cell h5.c1
  have d2 := hr.cell h5.c2
  have d3 := hr.cell h5.c3
  have d4 := hr.cell h5.c4
  have fz := hr.free
  go_upto_region 9 with (go_at_call 13; with_reducible refine c13.mono ?_; rintro e w1 ⟨rfl, rfl⟩)
  replace hm := setL hm lm lg (o + 2) (.bool false)
  replace hr := hr.set (o + 2) (.bool false)
  replace hp := hp.chg ((Chg.refl [L] w0).setCell (b := L) (o := o + 2) (by simp) (.bool false)) (by simp [hPL])
  replace ch := ch.setCell (b := L) (o := o + 2) (.inl (by simp)) (.bool false)
  clear d0 d1 d2 d3 d4 fz c13
  generalize w0.setCell ⟨L, o + 2, none⟩ (.bool false) = w2 at *
  have d1 := hr.cell (i := o + 1) (v := .pointer (some ⟨Q, 0, none⟩)) (by rw [Array.getElem?_setIfInBounds_ne (by omega)]; exact h5.c1)
  have c19 := leaveE_0 hm hp h1 h2 (by omega) hi
  go_upto_region 10 with (go_at_call 19; with_reducible refine c19.mono ?_; rintro r w3 ⟨rfl, hm2, hp2, ch2⟩)
  clear hm hp
  have hm := hm2
  replace ch := ch.trans (ch2.mono fun b hb => .inl (by simp at hb ⊢; omega))
  replace hr := hr.chg ch2 (by simp [Ne.symm hPL, lm, lg])
  clear d1 c19
  have d1 := hr.cell (i := o + 1) (v := .pointer (some ⟨Q, 0, none⟩)) (by rw [Array.getElem?_setIfInBounds_ne (by omega)]; exact h5.c1)
  have fz := hr.free
  go_upto_region 17 with fail
  replace hm := setL hm lm lg (o + 1) (.pointer none)
  replace hr := hr.set (o + 1) (.pointer none)
  replace ch := ch.setCell (b := L) (o := o + 1) (.inl (by simp)) (.pointer none)
  clear d1 fz hm2 hp2
  generalize w3.setCell ⟨L, o + 1, none⟩ (.pointer none) = w4 at *
  have c13 := touches_E hm
  have hTT : T ≤ T + 1 := by omega
  go_wp2_with (go_at_call 13; with_reducible refine c13.mono ?_; rintro e w9 ⟨rfl, rfl⟩)
  go_ret
  exact ⟨rfl, hm, hr, ch⟩
end Go.Proofs.Ytpfcpkkillklkaa
