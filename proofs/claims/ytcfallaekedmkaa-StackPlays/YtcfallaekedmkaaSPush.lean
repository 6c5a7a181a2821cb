/- Contracts of a Push's steps. -/
import Derived.Test.YtcfallaekedmkaaSSwap
namespace Go.Proofs.Ytcfallaekedmkaa
open Go.RowKit
open Mm (IsMem MS touched Only)

theorem IsPush.held2 {w : World} {P : Nat} {s a c d g k sl pc : Int} {tp : Nat} (h : IsPush w P s a c d g k sl pc tp) :
    w.cell? ⟨P, 6, none⟩ = some (.int .i64 sl) ∧ w.cell? ⟨P, 8, none⟩ = some (.int .u64 (tp : Nat)) := by
  obtain ⟨_, _, _, _, _, _, l6, _, l8⟩ := h.cells
  exact ⟨l6, l8⟩
theorem IsPush.held {w : World} {P : Nat} {s a c d g k sl pc : Int} {tp : Nat} (h : IsPush w P s a c d g k sl pc tp) :
    w.cell? ⟨P, 0, none⟩ = some (.int .i64 s) ∧ w.cell? ⟨P, 1, none⟩ = some (.int .i64 a) ∧ w.cell? ⟨P, 2, none⟩ = some (.int .i64 c) ∧ w.cell? ⟨P, 3, none⟩ = some (.int .i64 d) ∧ w.cell? ⟨P, 4, none⟩ = some (.int .i64 g) ∧ w.cell? ⟨P, 5, none⟩ = some (.int .i64 k) ∧ w.cell? ⟨P, 6, none⟩ = some (.int .i64 sl) ∧ w.cell? ⟨P, 8, none⟩ = some (.int .u64 (tp : Nat)) := by
  obtain ⟨l0, l1, l2, l3, l4, l5, l6, _, l8⟩ := h.cells
  exact ⟨l0, l1, l2, l3, l4, l5, l6, l8⟩

set_option maxHeartbeats 1000000 in
theorem pstep_0 {M G P : Nat} {m : MS} {w : World} {s a c d g k sl : Int} {tp : Nat} {t : Nat} (hm : IsMem w M G m) (hp : IsPush w P s a c d g k sl 0 tp) (h1 : P ≠ M) (h2 : P ≠ G) (hX : 4 ≤ m.X.length) (ht : 0 ≤ m.t ∧ m.t < 4611686018427387904) (hT : m.X.getD 3 0 = t) :
    Calls Try.prog 24 #[.pointer (some ⟨P, 0, none⟩), .pointer (some ⟨M, 0, none⟩)] w fun e w' => e = .returned (.bool false) ∧ IsMem w' M G (touched m 1 3 t) ∧ IsPush w' P s a c d g k sl 1 t ∧ Chg [P, M, G] w w' := by
  have c0 := Mm.load_in hm 3 (by omega) ht
  rw [hT] at c0
  generalize touched m 1 3 t = m' at *
  clear hX ht hT
  have ch := Chg.refl [P, M, G] w
  obtain ⟨l0, l1, l2, l3, l4, l5, l6, l7, l8⟩ := hp.cells
  have fz := hp.free
  go_enter Try.func24, Try.ntmps24
  go_upto_region 12 with (go_at_call 40; refine c0.mono ?_; rintro e w1 ⟨rfl, hm1, o1⟩; replace hp := only_push hp o1 h1 h2; clear hm; have hm := hm1; clear hm1; replace ch := ch.trans (Chg.of_only o1 (by simp) (by simp)); clear l0 l1 l2 l3 l4 l5 l6 l7 l8 fz; obtain ⟨l0, l1, l2, l3, l4, l5, l6, l7, l8⟩ := hp.cells; have fz := hp.free)
  replace hp := (hp.set8 t).set7 1
  replace hm := mem_set (i := 7) (mem_set (i := 8) hm h1 h2 (.int .u64 (t : Nat))) h1 h2 (.int .i64 1)
  replace ch := (ch.setCell (b := P) (o := 8) (by simp) (.int .u64 (t : Nat))).setCell (b := P) (o := 7) (by simp) (.int .i64 1)
  clear l0 l1 l2 l3 l4 l5 l6 l7 l8 fz
  generalize (w1.setCell ⟨P, 8, none⟩ (.int .u64 (t : Nat))).setCell ⟨P, 7, none⟩ (.int .i64 1) = w2 at *
  obtain ⟨l0, l1, l2, l3, l4, l5, l6, l7, l8⟩ := hp.cells
  go_wp2
  go_ret
  exact ⟨rfl, hm, hp, ch⟩

set_option maxHeartbeats 2000000 in
theorem pstep_1 {M G P : Nat} {m : MS} {w : World} {s a c d g k sl : Int} {tp : Nat} {L F : Nat} (hm : IsMem w M G m) (hp : IsPush w P s a c d g k sl 1 tp) (h1 : P ≠ M) (h2 : P ≠ G) (hX : L < m.X.length) (ht : 0 ≤ m.t ∧ m.t < 4611686018427387904) (hF : F ≤ 64)
    (c1 : ∀ w, Calls Try.prog 29 #[.agg (cs s a c d g k), .int .i64 sl] w fun e w' => e = .returned (.int .i64 (L : Nat)) ∧ Below w.heap.size w w')
    (c2 : ∀ w, Calls Try.prog 35 #[.agg (cs s a c d g k), .int .u64 (tp : Nat)] w fun e w' => e = .returned (.int .i64 ((F : Int) - 1)) ∧ Below w.heap.size w w') :
    Calls Try.prog 24 #[.pointer (some ⟨P, 0, none⟩), .pointer (some ⟨M, 0, none⟩)] w fun e w' => e = .returned (.bool false) ∧ IsMem w' M G (touched m 2 L F) ∧ IsPush w' P s a c d g k sl 2 tp ∧ Chg [P, M, G] w w' := by
  have c0 : ∀ w, IsMem w M G m → Calls Try.prog 41 #[.pointer (some ⟨M, 0, none⟩), .int .i64 (L : Nat), .int .u64 (F : Nat)] w fun e w' => e = .returned (.bool true) ∧ IsMem w' M G (touched m 2 L F) ∧ Only M G w w' := fun w h => Mm.store_in h L F hX (by omega) ht
  generalize touched m 2 L F = m' at *
  have q1 : IntKind.i64.wrap (F : Int) = (F : Int) := by rw [IntKind.wrap_i64]; omega
  have q2 : IntKind.u64.wrap (F : Int) = (F : Int) := by rw [IntKind.wrap_u64]; omega
  clear hX ht hF
  have ch := Chg.refl [P, M, G] w
  obtain ⟨l0, l1, l2, l3, l4, l5, l6, l7, l8⟩ := hp.cells
  have fz := hp.free
  go_enter Try.func24, Try.ntmps24
  go_upto_region 8 with fail
  replace hp := hp.below (Below.refl w.heap.size w).drew
  replace hm := hm.below (Below.refl w.heap.size w).drew
  replace ch := ch.then_below (Below.refl w.heap.size w).drew
  clear l0 l1 l2 l3 l4 l5 l6 l7 l8 fz
  obtain ⟨l0, l1, l2, l3, l4, l5, l6, l7, l8⟩ := hp.cells
  have fz := hp.free
  go_region_held (fun w' => w'.cell? ⟨P, 0, none⟩ = some (.int .i64 s) ∧ w'.cell? ⟨P, 1, none⟩ = some (.int .i64 a) ∧ w'.cell? ⟨P, 2, none⟩ = some (.int .i64 c) ∧ w'.cell? ⟨P, 3, none⟩ = some (.int .i64 d) ∧ w'.cell? ⟨P, 4, none⟩ = some (.int .i64 g) ∧ w'.cell? ⟨P, 5, none⟩ = some (.int .i64 k) ∧ w'.cell? ⟨P, 6, none⟩ = some (.int .i64 sl) ∧ w'.cell? ⟨P, 8, none⟩ = some (.int .u64 (tp : Nat))) (with_reducible exact hp.held) (first
    | (go_at_call 29; with_reducible refine (c1 _).mono ?_; rintro e w3 ⟨rfl, b⟩; replace hp := hp.below b; replace hm := hm.below b; replace ch := ch.then_below b; clear l0 l1 l2 l3 l4 l5 l6 l7 l8 fz; obtain ⟨l0, l1, l2, l3, l4, l5, l6, l7, l8⟩ := hp.cells; have fz := hp.free)
    | (go_at_call 35; with_reducible refine (c2 _).mono ?_; rintro e w3 ⟨rfl, b⟩; replace hp := hp.below b; replace hm := hm.below b; replace ch := ch.then_below b; clear l0 l1 l2 l3 l4 l5 l6 l7 l8 fz; obtain ⟨l0, l1, l2, l3, l4, l5, l6, l7, l8⟩ := hp.cells; have fz := hp.free)
    | (go_at_call 41; with_reducible refine (c0 _ hm).mono ?_; rintro e w3 ⟨rfl, hm1, o1⟩; replace hp := only_push hp o1 h1 h2; clear hm; have hm := hm1; clear hm1; replace ch := ch.trans (Chg.of_only o1 (by simp) (by simp)); clear l0 l1 l2 l3 l4 l5 l6 l7 l8 fz; obtain ⟨l0, l1, l2, l3, l4, l5, l6, l7, l8⟩ := hp.cells; have fz := hp.free))
  all_goals
    go_wp2
    go_ret
    exact ⟨rfl, mem_set hm h1 h2 _, hp.set7 2, ch.setCell (by simp) _⟩

set_option maxHeartbeats 2000000 in
theorem pswap_yes {M G P : Nat} {m : MS} {w : World} {s a c d g k sl : Int} {tp : Nat} {pc : Int} {V : Nat} (hm : IsMem w M G m) (hp : IsPush w P s a c d g k sl pc tp) (h1 : P ≠ M) (h2 : P ≠ G) (hX : 4 ≤ m.X.length) (ht : 0 ≤ m.t ∧ m.t < 4611686018427387904) (hT : m.X.getD 3 0 = tp) (hV : V < 18446744073709551616)
    (c1 : ∀ w, Calls Try.prog 53 #[.int .u64 (tp : Nat), .int .i64 sl] w fun e w' => e = .returned (.int .u64 (V : Nat)) ∧ Below w.heap.size w w') :
    Calls Try.prog 42 #[.pointer (some ⟨P, 0, none⟩), .pointer (some ⟨M, 0, none⟩)] w fun e w' => e = .returned (.tuple #[]) ∧ IsMem w' M G (touched m 3 3 V) ∧ IsPush w' P s a c d g k sl 3 tp ∧ Chg [P, M, G] w w' := by
  have c0 : ∀ w, IsMem w M G m → Calls Try.prog 52 #[.pointer (some ⟨M, 0, none⟩), .int .i64 3, .int .u64 (tp : Nat), .int .u64 (V : Nat)] w fun e w' => e = .returned (.bool true) ∧ IsMem w' M G (touched m 3 3 V) ∧ Only M G w w' := fun w h => by
    exact Mm.swap_yes h 3 tp V (by omega) hV hT ht
  generalize touched m 3 3 V = m' at *
  have ch := Chg.refl [P, M, G] w
  clear hX ht hT hV
  obtain ⟨l0, l1, l2, l3, l4, l5, l6, l7, l8⟩ := hp.cells
  have fz := hp.free
  go_enter Try.func42, Try.ntmps42
  go_upto_region 1 with fail
  replace hp := (hp.set7 0).below (Below.refl _ _).drew
  replace hm := (mem_set (i := 7) hm h1 h2 (.int .i64 0)).below (Below.refl _ _).drew
  replace ch := (ch.setCell (b := P) (o := 7) (by simp) (.int .i64 0)).then_below (Below.refl _ _).drew
  clear l0 l1 l2 l3 l4 l5 l6 l7 l8 fz
  generalize w.setCell ⟨P, 7, none⟩ (.int .i64 0) = w2 at *
  obtain ⟨l0, l1, l2, l3, l4, l5, l6, l7, l8⟩ := hp.cells
  have fz := hp.free
  go_region_held (fun w' => w'.cell? ⟨P, 6, none⟩ = some (.int .i64 sl) ∧ w'.cell? ⟨P, 8, none⟩ = some (.int .u64 (tp : Nat))) (with_reducible exact hp.held2) (first
    | (go_at_call 53; with_reducible refine (c1 _).mono ?_; rintro e w3 ⟨rfl, b⟩; replace hp := hp.below b; replace hm := hm.below b; replace ch := ch.then_below b; clear l0 l1 l2 l3 l4 l5 l6 l7 l8 fz; obtain ⟨l0, l1, l2, l3, l4, l5, l6, l7, l8⟩ := hp.cells; have fz := hp.free)
    | (go_at_call 52; with_reducible refine (c0 _ hm).mono ?_; rintro e w3 ⟨rfl, hm1, o1⟩; replace hp := only_push hp o1 h1 h2; clear hm; have hm := hm1; clear hm1; replace ch := ch.trans (Chg.of_only o1 (by simp) (by simp)); clear l0 l1 l2 l3 l4 l5 l6 l7 l8 fz; obtain ⟨l0, l1, l2, l3, l4, l5, l6, l7, l8⟩ := hp.cells; have fz := hp.free))
  go_wp2
  go_end0
  exact ⟨rfl, mem_set hm h1 h2 _, hp.set7 3, ch.setCell (by simp) _⟩

set_option maxHeartbeats 2000000 in
theorem pswap_no {M G P : Nat} {m : MS} {w : World} {s a c d g k sl : Int} {tp : Nat} {pc : Int} {V o : Nat} (hm : IsMem w M G m) (hp : IsPush w P s a c d g k sl pc tp) (h1 : P ≠ M) (h2 : P ≠ G) (hX : 4 ≤ m.X.length) (ht : 0 ≤ m.t ∧ m.t < 4611686018427387904) (hT : m.X.getD 3 0 = o) (hne : o ≠ tp)
    (c1 : ∀ w, Calls Try.prog 53 #[.int .u64 (tp : Nat), .int .i64 sl] w fun e w' => e = .returned (.int .u64 (V : Nat)) ∧ Below w.heap.size w w') :
    Calls Try.prog 42 #[.pointer (some ⟨P, 0, none⟩), .pointer (some ⟨M, 0, none⟩)] w fun e w' => e = .returned (.tuple #[]) ∧ IsMem w' M G (touched m 3 3 o) ∧ IsPush w' P s a c d g k sl 0 tp ∧ Chg [P, M, G] w w' := by
  have c0 : ∀ w, IsMem w M G m → Calls Try.prog 52 #[.pointer (some ⟨M, 0, none⟩), .int .i64 3, .int .u64 (tp : Nat), .int .u64 (V : Nat)] w fun e w' => e = .returned (.bool false) ∧ IsMem w' M G (touched m 3 3 o) ∧ Only M G w w' := fun w h => by
    have := Mm.swap_no h 3 tp V (by omega) (by rw [hT]; exact hne) ht
    rw [hT] at this
    exact this
  generalize touched m 3 3 o = m' at *
  have ch := Chg.refl [P, M, G] w
  clear hX ht hT hne
  obtain ⟨l0, l1, l2, l3, l4, l5, l6, l7, l8⟩ := hp.cells
  have fz := hp.free
  go_enter Try.func42, Try.ntmps42
  go_upto_region 1 with fail
  replace hp := (hp.set7 0).below (Below.refl _ _).drew
  replace hm := (mem_set (i := 7) hm h1 h2 (.int .i64 0)).below (Below.refl _ _).drew
  replace ch := (ch.setCell (b := P) (o := 7) (by simp) (.int .i64 0)).then_below (Below.refl _ _).drew
  clear l0 l1 l2 l3 l4 l5 l6 l7 l8 fz
  generalize w.setCell ⟨P, 7, none⟩ (.int .i64 0) = w2 at *
  obtain ⟨l0, l1, l2, l3, l4, l5, l6, l7, l8⟩ := hp.cells
  have fz := hp.free
  go_region_held (fun w' => w'.cell? ⟨P, 6, none⟩ = some (.int .i64 sl) ∧ w'.cell? ⟨P, 8, none⟩ = some (.int .u64 (tp : Nat))) (with_reducible exact hp.held2) (first
    | (go_at_call 53; with_reducible refine (c1 _).mono ?_; rintro e w3 ⟨rfl, b⟩; replace hp := hp.below b; replace hm := hm.below b; replace ch := ch.then_below b; clear l0 l1 l2 l3 l4 l5 l6 l7 l8 fz; obtain ⟨l0, l1, l2, l3, l4, l5, l6, l7, l8⟩ := hp.cells; have fz := hp.free)
    | (go_at_call 52; with_reducible refine (c0 _ hm).mono ?_; rintro e w3 ⟨rfl, hm1, o1⟩; replace hp := only_push hp o1 h1 h2; clear hm; have hm := hm1; clear hm1; replace ch := ch.trans (Chg.of_only o1 (by simp) (by simp)); clear l0 l1 l2 l3 l4 l5 l6 l7 l8 fz; obtain ⟨l0, l1, l2, l3, l4, l5, l6, l7, l8⟩ := hp.cells; have fz := hp.free))
  go_wp2
  go_end0
  exact ⟨rfl, hm, hp, ch⟩

set_option maxHeartbeats 400000 in
theorem pstep_2 {M G P : Nat} {m' : MS} {w : World} {s a c d g k sl : Int} {tp : Nat} {pc' : Int} {tp' : Nat}
    (hp : IsPush w P s a c d g k sl 2 tp)
    (c0 : Calls Try.prog 42 #[.pointer (some ⟨P, 0, none⟩), .pointer (some ⟨M, 0, none⟩)] w fun e w' => e = .returned (.tuple #[]) ∧ IsMem w' M G m' ∧ IsPush w' P s a c d g k sl pc' tp' ∧ Chg [P, M, G] w w') :
    Calls Try.prog 24 #[.pointer (some ⟨P, 0, none⟩), .pointer (some ⟨M, 0, none⟩)] w fun e w' => e = .returned (.bool (decide (pc' = 3))) ∧ IsMem w' M G m' ∧ IsPush w' P s a c d g k sl pc' tp' ∧ Chg [P, M, G] w w' := by
  obtain ⟨l0, l1, l2, l3, l4, l5, l6, l7, l8⟩ := hp.cells
  go_enter Try.func24, Try.ntmps24
  go_wp2_with (go_at_call 42; refine c0.mono ?_; rintro e w1 ⟨rfl, hm1, hp1, ch⟩; clear l0 l1 l2 l3 l4 l5 l6 l7 l8; obtain ⟨l0, l1, l2, l3, l4, l5, l6, l7, l8⟩ := hp1.cells)
  go_ret
  exact ⟨rfl, hm1, hp1, ch⟩

set_option maxHeartbeats 400000 in
theorem pstep_3 {M P : Nat} {w : World} {s a c d g k sl : Int} {tp : Nat}
    (hp : IsPush w P s a c d g k sl 3 tp) :
    Calls Try.prog 24 #[.pointer (some ⟨P, 0, none⟩), .pointer (some ⟨M, 0, none⟩)] w fun e w' => e = .returned (.bool true) ∧ w = w' := by
  obtain ⟨l0, l1, l2, l3, l4, l5, l6, l7, l8⟩ := hp.cells
  go_enter Try.func24, Try.ntmps24
  go_wp2
  go_ret
  exact ⟨rfl, rfl⟩

set_option maxHeartbeats 400000 in
theorem pstep_nil (m : Value) (w : World) : Calls Try.prog 24 #[.pointer none, m] w fun e w' => e = .returned (.bool true) ∧ w = w' := by
  go_enter Try.func24, Try.ntmps24
  go_wp2
  go_ret
  exact ⟨rfl, rfl⟩
end Go.Proofs.Ytcfallaekedmkaa
