/- Contracts of package shade: NewShade, and a machine's steps. -/
import Derived.Test.YtnegdabcjnhpdaaGreatDoorDHeap
namespace Go.Proofs.YtnegdabcjnhpdaaGreatDoor
open Go.RowKit
open Mm (IsMem MS touched Only)
open Hh (WT okW whiteH wordOf Hr blackN usedK)

theorem okW_M {W : Nat} (hW : W < 18446744073709551616) (h : okW W = true) : ∃ K M g A N S, Hr K M A N S ∧ W = wordOf K M (g : Bool).toNat A N S ∧ W % 8 = K ∧ W / 8 % 2 = M ∧ W / 16 % 2 = g.toNat := by
  obtain ⟨K, M, g, A, N, S, h1, h2⟩ := Hh.okW_parts hW h
  obtain ⟨p0, p1, p2, _⟩ := Hh.word_parts g h1
  rw [← h2] at p0 p1 p2
  exact ⟨K, M, g, A, N, S, h1, h2, p0, p1, p2⟩

/-- Shaded, of any word. -/
theorem shaded_any {W : Nat} (hW : W < 18446744073709551616) (e : Nat) (he : e < 18446744073709551616) (w : World) (hw : WT w) :
    Calls Tryz.prog 86 #[.int .u64 (W : Nat), .int .u64 (e : Nat)] w fun r w' => r = .returned (.tuple #[.int .u64 (((if canS W e then shN W e else W) : Nat) : Int), .bool (canS W e)]) ∧ Below w.heap.size w w' := by
  unfold canS
  cases hok : okW W
  · have := Hh.shaded_bad hW hok e w hw
    exact this
  · obtain ⟨K, M, g, A, N, S, h1, rfl, p0, p1, p2⟩ := okW_M hW hok
    rw [p0, p1]
    cases hz : whiteH (K : Int) (M : Int) e
    · exact Hh.shaded_not g h1 e he hz w hw
    · have c := Hh.shaded_word g h1 e he hz w hw
      have e2 : wordOf K (blackN e) (true : Bool).toNat A N S = shN (wordOf K M g.toNat A N S) e := by
        unfold shN
        rw [p1, p2]
        have hm := h1.m
        have hg := Hh.bool_lt g
        unfold wordOf
        simp
        omega
      rw [e2] at c
      exact c

/-- What is shaded is a header, gray, and not to be shaded again in that epoch. -/
theorem sh_facts {W : Nat} (hW : W < 18446744073709551616) {e : Nat} (h : canS W e = true) : shN W e < 18446744073709551616 ∧ okW (shN W e) = true ∧ canS (shN W e) e = false ∧ grayW (shN W e) = true ∧ shN W e ≠ W := by
  unfold canS at h
  rw [Bool.and_eq_true] at h
  obtain ⟨hok, hz⟩ := h
  obtain ⟨K, M, g, A, N, S, h1, rfl, p0, p1, p2⟩ := okW_M hW hok
  rw [p0, p1] at hz
  have hb := Hh.blackN_lt e
  have h2 : Hr K (blackN e) A N S := ⟨h1.k, hb, h1.a, h1.n, h1.s⟩
  have e2 : wordOf K (blackN e) (true : Bool).toNat A N S = shN (wordOf K M g.toNat A N S) e := by
    unfold shN
    rw [p1, p2]
    have hm := h1.m
    have hg := Hh.bool_lt g
    unfold wordOf
    simp
    omega
  obtain ⟨q0, q1, q2, _, _, _, _, q7⟩ := Hh.word_parts true h2
  have hok2 := Hh.okW_word true h2
  rw [e2] at q0 q1 q2 q7 hok2
  have hne : (M : Int) ≠ Hh.blackOf e := by
    unfold whiteH at hz
    simp only [Bool.and_eq_true, decide_eq_true_eq] at hz
    exact hz.2
  have hnw : whiteH (K : Int) ((blackN e : Nat) : Int) e = false := by
    unfold whiteH
    rw [Hh.black_nat]
    simp
  refine ⟨q7, hok2, ?_, ?_, ?_⟩
  · unfold canS
    rw [q0, q1, hnw, Bool.and_false]
  · unfold grayW
    rw [hok2, q2]
    rfl
  · intro x
    rw [x, p1] at q1
    rw [Hh.black_nat] at hne
    omega

/-- Where a slot's header stands. -/
theorem header_any {K : Cf} (hK : K.Ok) (s : Nat) (hs : s < K.S) (w : World) :
    Calls Tryz.prog 65 #[.agg K.cs, .int .i64 (s : Nat)] w fun e w' => e = .returned (.int .i64 (K.hd s : Nat)) ∧ Below w.heap.size w w' := by
  have h := header_yes (s := K.S) (a := K.a) (c := K.C) (d := K.D) (g := K.g) (k := K.k) s hK.r (be_iff.2 (by omega)) w
  have e : fsI K.C K.D + (s : Int) * ssI K.a = ((K.hd s : Nat) : Int) := by
    unfold fsI ssI Cf.hd
    rw [hK.b]
    push_cast
    omega
  rw [e] at h
  exact h

set_option maxHeartbeats 400000 in
theorem newShade_no {s a c d g k : Int} (i : Int) (e : Nat) (hr : (rightB s a c d g k && be i s) = false) (w : World) :
    Calls Tryz.prog 77 #[.agg (cs s a c d g k), .int .i64 i, .int .u64 (e : Nat)] w fun e w' => e = .returned (.pointer none) ∧ Below w.heap.size w w' := by
  have bel := alloc_below w (.cells #[.int .i64 s, .int .i64 a, .int .i64 c, .int .i64 d, .int .i64 g, .int .i64 k] 30)
  have c1 := header_no i hr
  clear hr
  go_enter Tryz.func77, Tryz.ntmps77
  go_wp2_with (go_at_call 65; refine (c1 _).mono ?_; rintro e w1 ⟨rfl, b⟩; replace bel := seq_below bel b)
  go_ret
  exact ⟨rfl, bel⟩

set_option maxHeartbeats 400000 in
theorem newShade_yes {K : Cf} (hK : K.Ok) (i : Nat) (hi : i < K.S) (e : Nat) (w : World) :
    Calls Tryz.prog 77 #[.agg K.cs, .int .i64 (i : Nat), .int .u64 (e : Nat)] w fun r w' => ∃ P, r = .returned (.pointer (some ⟨P, 0, none⟩)) ∧ IsShd w' P false (K.hd i : Nat) e 0 0 0 ∧ w.heap.size ≤ P ∧ Below w.heap.size w w' := by
  have c1 := header_any hK i hi
  unfold Cf.cs at *
  have hl : (0 : Int) ≤ ((K.hd i : Nat) : Int) := by omega
  generalize ((K.hd i : Nat) : Int) = L at *
  generalize (K.S : Int) = s at *
  generalize K.a = a at *
  generalize (K.C : Int) = c at *
  generalize (K.D : Int) = d at *
  generalize K.g = g at *
  generalize K.k = k at *
  generalize (i : Int) = j at *
  clear hK hi
  have bel := alloc_below w (.cells #[.int .i64 s, .int .i64 a, .int .i64 c, .int .i64 d, .int .i64 g, .int .i64 k] 30)
  go_enter Tryz.func77, Tryz.ntmps77
  go_wp2_with (go_at_call 65; refine (c1 _).mono ?_; rintro e w1 ⟨rfl, b⟩; replace bel := seq_below bel b)
  go_ret
  exact ⟨_, rfl, new_obj _ _, bel.size, bel.alloc bel.size _⟩

theorem shd_nil (v : Value) (w : World) : Calls Tryz.prog 58 #[.pointer none, v] w fun e w' => e = .returned (.bool true) ∧ w = w' := by
  go_enter Tryz.func58, Tryz.ntmps58
  go_wp2
  go_ret
  exact ⟨rfl, rfl⟩

/-- What is known of the world within a step. -/
structure InD (w wr : World) (P M G : Nat) (m : MS) (gw : Bool) (hd : Int) (e : Nat) (pc : Int) (was nw : Nat) : Prop where
  mem : IsMem wr M G m
  shd : IsShd wr P gw hd e pc was nw
  chg : Chg [P, M, G] w wr
  wt : WT wr
  pm : P ≠ M
  pg : P ≠ G
  z : 0 ∉ [P, M, G]
theorem InD.start {w : World} {P M G : Nat} {m : MS} {gw : Bool} {hd : Int} {e : Nat} {pc : Int} {was nw : Nat} (hm : IsMem w M G m) (hp : IsShd w P gw hd e pc was nw) (hw : WT w) (h1 : P ≠ M) (h2 : P ≠ G) (hl : 1 ≤ m.X.length) : InD w w P M G m gw hd e pc was nw :=
  ⟨hm, hp, Chg.refl _ _, hw, h1, h2, by have := WT.mem hw hm hl; have := WT.shd hw hp; simp; omega⟩
theorem InD.below {w wr : World} {P M G : Nat} {m : MS} {gw : Bool} {hd : Int} {e : Nat} {pc : Int} {was nw : Nat} {w' : World} (h : InD w wr P M G m gw hd e pc was nw) (b : Below wr.heap.size wr w') : InD w w' P M G m gw hd e pc was nw := ⟨h.mem.below b, h.shd.below b, h.chg.then_below b, h.wt.below b, h.pm, h.pg, h.z⟩
theorem InD.drew {w wr : World} {P M G : Nat} {m : MS} {gw : Bool} {hd : Int} {e : Nat} {pc : Int} {was nw : Nat} (h : InD w wr P M G m gw hd e pc was nw) : InD w wr.drew P M G m gw hd e pc was nw := h.below (Below.refl _ _).drew
theorem InD.only {w wr : World} {P M G : Nat} {m : MS} {gw : Bool} {hd : Int} {e : Nat} {pc : Int} {was nw : Nat} {w' : World} {m' : MS} (h : InD w wr P M G m gw hd e pc was nw) (hm : IsMem w' M G m') (o : Only M G wr w') : InD w w' P M G m' gw hd e pc was nw :=
  ⟨hm, h.shd.only o h.pm h.pg, h.chg.trans (Chg.of_only o (by simp) (by simp)), WT.chg (L := [M, G]) h.wt (Chg.of_only o (by simp) (by simp)) (by have := h.z; simp at this ⊢; omega), h.pm, h.pg, h.z⟩
theorem InD.setv {w wr : World} {P M G : Nat} {m : MS} {gw : Bool} {hd : Int} {e : Nat} {pc : Int} {was nw : Nat} {gw' : Bool} {pc' : Int} {was' nw' : Nat} {i : Nat} {v : Value} (h : InD w wr P M G m gw hd e pc was nw) (hs : IsShd (wr.setCell ⟨P, i, none⟩ v) P gw' hd e pc' was' nw') : InD w (wr.setCell ⟨P, i, none⟩ v) P M G m gw' hd e pc' was' nw' :=
  ⟨mem_set h.mem h.pm h.pg _, hs, h.chg.setCell (by simp) _, WT.chg (L := [P]) h.wt ((Chg.refl [P] wr).setCell (by simp) v) (by have := h.z; simp at this ⊢; omega), h.pm, h.pg, h.z⟩
theorem InD.set0 {w wr : World} {P M G : Nat} {m : MS} {gw : Bool} {hd : Int} {e : Nat} {pc : Int} {was nw : Nat} (h : InD w wr P M G m gw hd e pc was nw) (v : Bool) : InD w (wr.setCell ⟨P, 0, none⟩ (.bool v)) P M G m v hd e pc was nw := h.setv (h.shd.set0 v)
theorem InD.set3 {w wr : World} {P M G : Nat} {m : MS} {gw : Bool} {hd : Int} {e : Nat} {pc : Int} {was nw : Nat} (h : InD w wr P M G m gw hd e pc was nw) (v : Int) : InD w (wr.setCell ⟨P, 3, none⟩ (.int .i64 v)) P M G m gw hd e v was nw := h.setv (h.shd.set3 v)
theorem InD.set4 {w wr : World} {P M G : Nat} {m : MS} {gw : Bool} {hd : Int} {e : Nat} {pc : Int} {was nw : Nat} (h : InD w wr P M G m gw hd e pc was nw) (v : Nat) : InD w (wr.setCell ⟨P, 4, none⟩ (.int .u64 (v : Nat))) P M G m gw hd e pc v nw := h.setv (h.shd.set4 v)
theorem InD.set5 {w wr : World} {P M G : Nat} {m : MS} {gw : Bool} {hd : Int} {e : Nat} {pc : Int} {was nw : Nat} (h : InD w wr P M G m gw hd e pc was nw) (v : Nat) : InD w (wr.setCell ⟨P, 5, none⟩ (.int .u64 (v : Nat))) P M G m gw hd e pc was v := h.setv (h.shd.set5 v)

set_option maxHeartbeats 2000000 in
theorem loadHeader_at {M G P : Nat} {m : MS} {w : World} {gw : Bool} {h e : Nat} {pc : Int} {was nw W W' : Nat} {can : Bool} (hm : IsMem w M G m) (hp : IsShd w P gw (h : Nat) e pc was nw) (hw : WT w) (h1 : P ≠ M) (h2 : P ≠ G) (hX : h < m.X.length) (ht : 0 ≤ m.t ∧ m.t < 4611686018427387904) (hv : m.X.getD h 0 = W)
    (c1 : ∀ w, WT w → Calls Tryz.prog 86 #[.int .u64 (W : Nat), .int .u64 (e : Nat)] w fun r w' => r = .returned (.tuple #[.int .u64 (W' : Nat), .bool can]) ∧ Below w.heap.size w w') :
    Calls Tryz.prog 78 #[.pointer (some ⟨P, 0, none⟩), .pointer (some ⟨M, 0, none⟩)] w fun r w' => r = .returned (.tuple #[]) ∧ IsMem w' M G (touched m 1 h W) ∧ IsShd w' P gw (h : Nat) e (if can then 1 else 4) W W' ∧ WT w' ∧ Chg [P, M, G] w w' := by
  have c0 := Mm.load_in hm h hX ht
  rw [hv] at c0
  have is := InD.start hm hp hw h1 h2 (by omega)
  generalize touched m 1 h W = m' at *
  clear hm hX ht hv hw
  obtain ⟨l0, l1, l2, l3, l4, l5⟩ := hp.cells
  clear hp
  go_enter Tryz.func78, Tryz.ntmps78
  go_upto_region 2 with (go_at_call 24; refine c0.mono ?_; rintro e w1 ⟨rfl, hm1, o1⟩; replace is := is.only hm1 o1; clear l0 l1 l2 l3 l4 l5; obtain ⟨l0, l1, l2, l3, l4, l5⟩ := is.shd.cells; have fz := is.shd.free)
  replace is := is.set4 W
  clear l0 l1 l2 l3 l4 l5 fz hm1 o1
  generalize w1.setCell ⟨P, 4, none⟩ (.int .u64 (W : Nat)) = w2 at *
  replace is := is.drew
  obtain ⟨l0, l1, l2, l3, l4, l5⟩ := is.shd.cells
  have fz := is.shd.free
  go_region_held (fun w' => w'.cell? ⟨P, 4, none⟩ = some (.int .u64 (W : Nat)) ∧ w'.cell? ⟨P, 2, none⟩ = some (.int .u64 (e : Nat))) (first | (exact ⟨is.shd.cells.2.2.2.2.1, is.shd.cells.2.2.1⟩) | (exact ⟨(is.set5 W').shd.cells.2.2.2.2.1, (is.set5 W').shd.cells.2.2.1⟩)) (first
    | (go_at_call 86; with_reducible refine (c1 _ is.wt).mono ?_; rintro r w3 ⟨rfl, b⟩; replace is := is.below b; clear l0 l1 l2 l3 l4 l5 fz; obtain ⟨l0, l1, l2, l3, l4, l5⟩ := is.shd.cells; have fz := is.shd.free))
  replace is := is.set5 W'
  clear l0 l1 l2 l3 l4 l5 fz c1 c0
  generalize w3.setCell ⟨P, 5, none⟩ (.int .u64 (W' : Nat)) = w4 at *
  obtain ⟨l0, l1, l2, l3, l4, l5⟩ := is.shd.cells
  have fz := is.shd.free
  cases can
  · go_wp2
    go_end0
    have z := (is.set3 1).set3 4
    exact ⟨rfl, z.mem, z.shd, z.wt, z.chg⟩
  · go_wp2
    go_end0
    have z := is.set3 1
    exact ⟨rfl, z.mem, z.shd, z.wt, z.chg⟩

set_option maxHeartbeats 2000000 in
theorem swapHeader_yes {M G P : Nat} {m : MS} {w : World} {gw : Bool} {h e : Nat} {pc : Int} {was nw : Nat} (hm : IsMem w M G m) (hp : IsShd w P gw (h : Nat) e pc was nw) (hw : WT w) (h1 : P ≠ M) (h2 : P ≠ G) (hX : h < m.X.length) (ht : 0 ≤ m.t ∧ m.t < 4611686018427387904) (hv : m.X.getD h 0 = was) (hn : nw < 18446744073709551616) :
    Calls Tryz.prog 80 #[.pointer (some ⟨P, 0, none⟩), .pointer (some ⟨M, 0, none⟩)] w fun r w' => r = .returned (.tuple #[]) ∧ IsMem w' M G (touched m 3 h nw) ∧ IsShd w' P true (h : Nat) e 4 was nw ∧ WT w' ∧ Chg [P, M, G] w w' := by
  have c0 : ∀ w, IsMem w M G m → Calls Tryz.prog 41 #[.pointer (some ⟨M, 0, none⟩), .int .i64 (h : Nat), .int .u64 (was : Nat), .int .u64 (nw : Nat)] w fun r w' => r = .returned (.bool true) ∧ IsMem w' M G (touched m 3 h nw) ∧ Only M G w w' := fun w hh => Mm.swap_yes hh h was nw hX hn hv ht
  have is := InD.start hm hp hw h1 h2 (by omega)
  generalize touched m 3 h nw = m' at *
  clear hm hX ht hv hw hp
  have l3 := is.shd.cells.2.2.2.1
  have fz := is.shd.free 3
  go_enter Tryz.func80, Tryz.ntmps80
  go_upto_region 1 with fail
  replace is := is.set3 3
  clear l3 fz
  generalize w.setCell ⟨P, 3, none⟩ (.int .i64 3) = w1 at *
  replace is := is.drew
  obtain ⟨l0, l1, l2, l3, l4, l5⟩ := is.shd.cells
  go_region_held (fun w' => w'.cell? ⟨P, 1, none⟩ = some (.int .i64 (h : Nat)) ∧ w'.cell? ⟨P, 4, none⟩ = some (.int .u64 (was : Nat)) ∧ w'.cell? ⟨P, 5, none⟩ = some (.int .u64 (nw : Nat))) (exact ⟨is.shd.cells.2.1, is.shd.cells.2.2.2.2.1, is.shd.cells.2.2.2.2.2⟩) (first
    | (go_at_call 41; with_reducible refine (c0 _ is.mem).mono ?_; rintro r w3 ⟨rfl, hm1, o1⟩; replace is := is.only hm1 o1))
  clear l0 l1 l2 l3 l4 l5
  obtain ⟨l0, l1, l2, l3, l4, l5⟩ := is.shd.cells
  have fz := is.shd.free
  go_wp2
  go_end0
  have z := (is.set0 true).set3 4
  exact ⟨rfl, z.mem, z.shd, z.wt, z.chg⟩

set_option maxHeartbeats 2000000 in
theorem swapHeader_no {M G P : Nat} {m : MS} {w : World} {gw : Bool} {h e : Nat} {pc : Int} {was nw W : Nat} (hm : IsMem w M G m) (hp : IsShd w P gw (h : Nat) e pc was nw) (hw : WT w) (h1 : P ≠ M) (h2 : P ≠ G) (hX : h < m.X.length) (ht : 0 ≤ m.t ∧ m.t < 4611686018427387904) (hv : m.X.getD h 0 = W) (hne : W ≠ was) :
    Calls Tryz.prog 80 #[.pointer (some ⟨P, 0, none⟩), .pointer (some ⟨M, 0, none⟩)] w fun r w' => r = .returned (.tuple #[]) ∧ IsMem w' M G (touched m 3 h W) ∧ IsShd w' P gw (h : Nat) e 3 was nw ∧ WT w' ∧ Chg [P, M, G] w w' := by
  have c0 : ∀ w, IsMem w M G m → Calls Tryz.prog 41 #[.pointer (some ⟨M, 0, none⟩), .int .i64 (h : Nat), .int .u64 (was : Nat), .int .u64 (nw : Nat)] w fun r w' => r = .returned (.bool false) ∧ IsMem w' M G (touched m 3 h W) ∧ Only M G w w' := fun w hh => by
    have := Mm.swap_no hh h was nw hX (by rw [hv]; exact hne) ht
    rw [hv] at this
    exact this
  have is := InD.start hm hp hw h1 h2 (by omega)
  generalize touched m 3 h W = m' at *
  clear hm hX ht hv hw hp hne
  have l3 := is.shd.cells.2.2.2.1
  have fz := is.shd.free 3
  go_enter Tryz.func80, Tryz.ntmps80
  go_upto_region 1 with fail
  replace is := is.set3 3
  clear l3 fz
  generalize w.setCell ⟨P, 3, none⟩ (.int .i64 3) = w1 at *
  replace is := is.drew
  obtain ⟨l0, l1, l2, l3, l4, l5⟩ := is.shd.cells
  go_region_held (fun w' => w'.cell? ⟨P, 1, none⟩ = some (.int .i64 (h : Nat)) ∧ w'.cell? ⟨P, 4, none⟩ = some (.int .u64 (was : Nat)) ∧ w'.cell? ⟨P, 5, none⟩ = some (.int .u64 (nw : Nat))) (exact ⟨is.shd.cells.2.1, is.shd.cells.2.2.2.2.1, is.shd.cells.2.2.2.2.2⟩) (first
    | (go_at_call 41; with_reducible refine (c0 _ is.mem).mono ?_; rintro r w3 ⟨rfl, hm1, o1⟩; replace is := is.only hm1 o1))
  go_wp2
  go_end0
  exact ⟨rfl, is.mem, is.shd, is.wt, is.chg⟩

/-! A step. -/
set_option maxHeartbeats 1000000 in
theorem shd_0 {M G P : Nat} {m : MS} {w : World} {gw : Bool} {h e : Nat} {was nw : Nat} (hm : IsMem w M G m) (hp : IsShd w P gw (h : Nat) e 0 was nw) (hw : WT w) (h1 : P ≠ M) (h2 : P ≠ G) (hX : h < m.X.length) (ht : 0 ≤ m.t ∧ m.t < 4611686018427387904) (he : e < 18446744073709551616) :
    Calls Tryz.prog 58 #[.pointer (some ⟨P, 0, none⟩), .pointer (some ⟨M, 0, none⟩)] w fun r w' => r = .returned (.bool (!(canS (m.X.getD h 0) e))) ∧ IsMem w' M G (touched m 1 h (m.X.getD h 0)) ∧ IsShd w' P gw (h : Nat) e (if canS (m.X.getD h 0) e then 1 else 4) (m.X.getD h 0) (if canS (m.X.getD h 0) e then shN (m.X.getD h 0) e else m.X.getD h 0) ∧ WT w' ∧ Chg [P, M, G] w w' := by
  have c0 := loadHeader_at hm hp hw h1 h2 hX ht rfl (fun w hw => shaded_any (hm.word_lt h) e he w hw)
  obtain ⟨l0, l1, l2, l3, l4, l5⟩ := hp.cells
  generalize touched m 1 h (m.X.getD h 0) = m' at *
  generalize m.X.getD h 0 = W at *
  generalize (if canS W e then shN W e else W) = W' at *
  generalize canS W e = can at *
  clear hm hX ht hw
  go_enter Tryz.func58, Tryz.ntmps58
  go_upto_region 14 with (go_at_call 78; refine c0.mono ?_; rintro r w1 ⟨rfl, hm1, hp1, hw1, o1⟩; clear l0 l1 l2 l3 l4 l5 hp; obtain ⟨l0, l1, l2, l3, l4, l5⟩ := hp1.cells)
  cases can
  all_goals
    go_wp2
    go_ret
    exact ⟨rfl, hm1, hp1, hw1, o1⟩

set_option maxHeartbeats 1000000 in
theorem shd_1 {M G P : Nat} {m : MS} {w : World} {gw : Bool} {h e : Nat} {was nw : Nat} (hm : IsMem w M G m) (hp : IsShd w P gw (h : Nat) e 1 was nw) (hw : WT w) (h1 : P ≠ M) (h2 : P ≠ G) (hX : 2 < m.X.length) (ht : 0 ≤ m.t ∧ m.t < 4611686018427387904) :
    Calls Tryz.prog 58 #[.pointer (some ⟨P, 0, none⟩), .pointer (some ⟨M, 0, none⟩)] w fun r w' => r = .returned (.bool false) ∧ IsMem w' M G (touched m 4 2 (Mm.sumW (m.X.getD 2 0) 1)) ∧ IsShd w' P gw (h : Nat) e 2 was nw ∧ WT w' ∧ Chg [P, M, G] w w' := by
  have c0 := Mm.add_in hm 2 1 hX ht
  rw [show ((1 : Nat) : Int) = 1 from rfl] at c0
  have is := InD.start hm hp hw h1 h2 (by omega)
  generalize touched m 4 2 (Mm.sumW (m.X.getD 2 0) 1) = m' at *
  generalize Mm.sumW (m.X.getD 2 0) 1 = sm at *
  obtain ⟨l0, l1, l2, l3, l4, l5⟩ := hp.cells
  clear hm hX ht hw hp
  go_enter Tryz.func58, Tryz.ntmps58
  go_wp2_with (go_at_call 79; refine c0.mono ?_; rintro r w1 ⟨rfl, hm1, o1⟩; replace is := is.only hm1 o1; clear l0 l1 l2 l3 l4 l5; obtain ⟨l0, l1, l2, l3, l4, l5⟩ := is.shd.cells; have fz := is.shd.free)
  go_ret
  have z := is.set3 2
  exact ⟨rfl, z.mem, z.shd, z.wt, z.chg⟩

set_option maxHeartbeats 1000000 in
theorem shd_3 {M G P : Nat} {m : MS} {w : World} {gw : Bool} {h e : Nat} {was nw : Nat} (hm : IsMem w M G m) (hp : IsShd w P gw (h : Nat) e 3 was nw) (hw : WT w) (h1 : P ≠ M) (h2 : P ≠ G) (hX : 2 < m.X.length) (ht : 0 ≤ m.t ∧ m.t < 4611686018427387904) :
    Calls Tryz.prog 58 #[.pointer (some ⟨P, 0, none⟩), .pointer (some ⟨M, 0, none⟩)] w fun r w' => r = .returned (.bool false) ∧ IsMem w' M G (touched m 4 2 (Mm.sumW (m.X.getD 2 0) 18446744073709551615)) ∧ IsShd w' P gw (h : Nat) e 0 was nw ∧ WT w' ∧ Chg [P, M, G] w w' := by
  have c0 := Mm.add_in hm 2 18446744073709551615 hX ht
  rw [show ((18446744073709551615 : Nat) : Int) = 18446744073709551615 from rfl] at c0
  have is := InD.start hm hp hw h1 h2 (by omega)
  generalize touched m 4 2 (Mm.sumW (m.X.getD 2 0) 18446744073709551615) = m' at *
  generalize Mm.sumW (m.X.getD 2 0) 18446744073709551615 = sm at *
  obtain ⟨l0, l1, l2, l3, l4, l5⟩ := hp.cells
  clear hm hX ht hw hp
  go_enter Tryz.func58, Tryz.ntmps58
  go_wp2_with (go_at_call 79; refine c0.mono ?_; rintro r w1 ⟨rfl, hm1, o1⟩; replace is := is.only hm1 o1; clear l0 l1 l2 l3 l4 l5; obtain ⟨l0, l1, l2, l3, l4, l5⟩ := is.shd.cells; have fz := is.shd.free)
  go_ret
  have z := is.set3 0
  exact ⟨rfl, z.mem, z.shd, z.wt, z.chg⟩

set_option maxHeartbeats 1000000 in
theorem shd_2y {M G P : Nat} {m : MS} {w : World} {gw : Bool} {h e : Nat} {was nw : Nat} (hm : IsMem w M G m) (hp : IsShd w P gw (h : Nat) e 2 was nw) (hw : WT w) (h1 : P ≠ M) (h2 : P ≠ G) (hX : h < m.X.length) (ht : 0 ≤ m.t ∧ m.t < 4611686018427387904) (hv : m.X.getD h 0 = was) (hn : nw < 18446744073709551616) :
    Calls Tryz.prog 58 #[.pointer (some ⟨P, 0, none⟩), .pointer (some ⟨M, 0, none⟩)] w fun r w' => r = .returned (.bool true) ∧ IsMem w' M G (touched m 3 h nw) ∧ IsShd w' P true (h : Nat) e 4 was nw ∧ WT w' ∧ Chg [P, M, G] w w' := by
  have c0 := swapHeader_yes hm hp hw h1 h2 hX ht hv hn
  obtain ⟨l0, l1, l2, l3, l4, l5⟩ := hp.cells
  clear hm hX ht hw
  go_enter Tryz.func58, Tryz.ntmps58
  go_wp2_with (go_at_call 80; refine c0.mono ?_; rintro r w1 ⟨rfl, hm1, hp1, hw1, o1⟩; clear l0 l1 l2 l3 l4 l5 hp; obtain ⟨l0, l1, l2, l3, l4, l5⟩ := hp1.cells)
  go_ret
  exact ⟨rfl, hm1, hp1, hw1, o1⟩

set_option maxHeartbeats 1000000 in
theorem shd_2n {M G P : Nat} {m : MS} {w : World} {gw : Bool} {h e : Nat} {was nw W : Nat} (hm : IsMem w M G m) (hp : IsShd w P gw (h : Nat) e 2 was nw) (hw : WT w) (h1 : P ≠ M) (h2 : P ≠ G) (hX : h < m.X.length) (ht : 0 ≤ m.t ∧ m.t < 4611686018427387904) (hv : m.X.getD h 0 = W) (hne : W ≠ was) :
    Calls Tryz.prog 58 #[.pointer (some ⟨P, 0, none⟩), .pointer (some ⟨M, 0, none⟩)] w fun r w' => r = .returned (.bool false) ∧ IsMem w' M G (touched m 3 h W) ∧ IsShd w' P gw (h : Nat) e 3 was nw ∧ WT w' ∧ Chg [P, M, G] w w' := by
  have c0 := swapHeader_no hm hp hw h1 h2 hX ht hv hne
  obtain ⟨l0, l1, l2, l3, l4, l5⟩ := hp.cells
  clear hm hX ht hw
  go_enter Tryz.func58, Tryz.ntmps58
  go_wp2_with (go_at_call 80; refine c0.mono ?_; rintro r w1 ⟨rfl, hm1, hp1, hw1, o1⟩; clear l0 l1 l2 l3 l4 l5 hp; obtain ⟨l0, l1, l2, l3, l4, l5⟩ := hp1.cells)
  go_ret
  exact ⟨rfl, hm1, hp1, hw1, o1⟩

theorem shd_4 {M P : Nat} {w : World} {gw : Bool} {hd : Int} {e : Nat} {was nw : Nat} (hp : IsShd w P gw hd e 4 was nw) :
    Calls Tryz.prog 58 #[.pointer (some ⟨P, 0, none⟩), .pointer (some ⟨M, 0, none⟩)] w fun r w' => r = .returned (.bool true) ∧ w = w' := by
  obtain ⟨l0, l1, l2, l3, l4, l5⟩ := hp.cells
  go_enter Tryz.func58, Tryz.ntmps58
  go_wp2
  go_ret
  exact ⟨rfl, rfl⟩
end Go.Proofs.YtnegdabcjnhpdaaGreatDoor
