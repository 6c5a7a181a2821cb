/- Contracts of a Pop's last step, and of its Step. -/
import Derived.Test.YtcfallaekedmkaaSPop
namespace Go.Proofs.Ytcfallaekedmkaa
open Go.RowKit
open Mm (IsMem MS touched Only)
open Tg (movedW)

theorem IsPop.held2 {w : World} {P : Nat} {s a c d g k sl : Int} {em : Bool} {pc : Int} {tp : Nat} {nx : Int} (h : IsPop w P s a c d g k sl em pc tp nx) :
    w.cell? ⟨P, 9, none⟩ = some (.int .u64 (tp : Nat)) ∧ w.cell? ⟨P, 10, none⟩ = some (.int .i64 nx) := by
  obtain ⟨_, _, _, _, _, _, _, _, _, l9, l10⟩ := h.cells
  exact ⟨l9, l10⟩

set_option maxHeartbeats 2000000 in
theorem swapTop_yes {M G P : Nat} {m : MS} {w : World} {s a c d g k sl : Int} {em : Bool} {pc : Int} {tp : Nat} {nx : Int} {V : Nat} {f : Int}
    (hm : IsMem w M G m) (hp : IsPop w P s a c d g k sl em pc tp nx) (h1 : P ≠ M) (h2 : P ≠ G) (hX : 4 ≤ m.X.length) (ht : 0 ≤ m.t ∧ m.t < 4611686018427387904) (hT : m.X.getD 3 0 = tp) (hV : V < 18446744073709551616)
    (c1 : ∀ w, Calls Try.prog 53 #[.int .u64 (tp : Nat), .int .i64 nx] w fun e w' => e = .returned (.int .u64 (V : Nat)) ∧ Below w.heap.size w w')
    (c2 : ∀ w, Calls Try.prog 35 #[.agg (cs s a c d g k), .int .u64 (tp : Nat)] w fun e w' => e = .returned (.int .i64 f) ∧ Below w.heap.size w w') :
    Calls Try.prog 39 #[.pointer (some ⟨P, 0, none⟩), .pointer (some ⟨M, 0, none⟩)] w fun e w' => e = .returned (.tuple #[]) ∧ IsMem w' M G (touched m 3 3 V) ∧ IsPop w' P s a c d g k f em 3 tp nx ∧ Chg [P, M, G] w w' := by
  have c0 : ∀ w, IsMem w M G m → Calls Try.prog 52 #[.pointer (some ⟨M, 0, none⟩), .int .i64 3, .int .u64 (tp : Nat), .int .u64 (V : Nat)] w fun e w' => e = .returned (.bool true) ∧ IsMem w' M G (touched m 3 3 V) ∧ Only M G w w' := fun w h => by
    exact Mm.swap_yes h 3 tp V (by omega) hV hT ht
  generalize touched m 3 3 V = m' at *
  have ch := Chg.refl [P, M, G] w
  clear hX ht hT hV
  obtain ⟨l0, l1, l2, l3, l4, l5, l6, l7, l8, l9, l10⟩ := hp.cells
  have fz := hp.free
  go_enter Try.func39, Try.ntmps39
  go_upto_region 1 with fail
  replace hp := (hp.set8 0).below (Below.refl _ _).drew
  replace hm := (mem_set (i := 8) hm h1 h2 (.int .i64 0)).below (Below.refl _ _).drew
  replace ch := (ch.setCell (b := P) (o := 8) (by simp) (.int .i64 0)).then_below (Below.refl _ _).drew
  clear l0 l1 l2 l3 l4 l5 l6 l7 l8 l9 l10 fz
  generalize w.setCell ⟨P, 8, none⟩ (.int .i64 0) = w2 at *
  obtain ⟨l0, l1, l2, l3, l4, l5, l6, l7, l8, l9, l10⟩ := hp.cells
  have fz := hp.free
  go_region_held (fun w' => w'.cell? ⟨P, 9, none⟩ = some (.int .u64 (tp : Nat)) ∧ w'.cell? ⟨P, 10, none⟩ = some (.int .i64 nx)) (with_reducible exact hp.held2) (first
    | (go_at_call 53; with_reducible refine (c1 _).mono ?_; rintro e w3 ⟨rfl, b⟩; replace hp := hp.below b; replace hm := hm.below b; replace ch := ch.then_below b; clear l0 l1 l2 l3 l4 l5 l6 l7 l8 l9 l10 fz; obtain ⟨l0, l1, l2, l3, l4, l5, l6, l7, l8, l9, l10⟩ := hp.cells; have fz := hp.free)
    | (go_at_call 52; with_reducible refine (c0 _ hm).mono ?_; rintro e w3 ⟨rfl, hm1, o1⟩; replace hp := only_pop hp o1 h1 h2; clear hm; have hm := hm1; clear hm1; replace ch := ch.trans (Chg.of_only o1 (by simp) (by simp)); clear l0 l1 l2 l3 l4 l5 l6 l7 l8 l9 l10 fz; obtain ⟨l0, l1, l2, l3, l4, l5, l6, l7, l8, l9, l10⟩ := hp.cells; have fz := hp.free))
  go_upto_region 2 with fail
  replace hp := hp.below (Below.refl _ _).drew
  replace hm := hm.below (Below.refl _ _).drew
  replace ch := ch.then_below (Below.refl _ _).drew
  clear l0 l1 l2 l3 l4 l5 l6 l7 l8 l9 l10 fz
  obtain ⟨l0, l1, l2, l3, l4, l5, l6, l7, l8, l9, l10⟩ := hp.cells
  have fz := hp.free
  go_region_held (fun w' => w'.cell? ⟨P, 2, none⟩ = some (.int .i64 s) ∧ w'.cell? ⟨P, 3, none⟩ = some (.int .i64 a) ∧ w'.cell? ⟨P, 4, none⟩ = some (.int .i64 c) ∧ w'.cell? ⟨P, 5, none⟩ = some (.int .i64 d) ∧ w'.cell? ⟨P, 6, none⟩ = some (.int .i64 g) ∧ w'.cell? ⟨P, 7, none⟩ = some (.int .i64 k) ∧ w'.cell? ⟨P, 9, none⟩ = some (.int .u64 (tp : Nat))) (first | (with_reducible exact hp.held) | (with_reducible exact (hp.set0 _).held)) (first
    | (go_at_call 35; with_reducible refine (c2 _).mono ?_; rintro e w4 ⟨rfl, b⟩; replace hp := hp.below b; replace hm := hm.below b; replace ch := ch.then_below b; clear l0 l1 l2 l3 l4 l5 l6 l7 l8 l9 l10 fz; obtain ⟨l0, l1, l2, l3, l4, l5, l6, l7, l8, l9, l10⟩ := hp.cells; have fz := hp.free))
  go_wp2
  go_end0
  exact ⟨rfl, mem_set (mem_set hm h1 h2 _) h1 h2 _, (hp.set0 f).set8 3, (ch.setCell (by simp) _).setCell (by simp) _⟩

set_option maxHeartbeats 2000000 in
theorem swapTop_no {M G P : Nat} {m : MS} {w : World} {s a c d g k sl : Int} {em : Bool} {pc : Int} {tp : Nat} {nx : Int} {V o : Nat}
    (hm : IsMem w M G m) (hp : IsPop w P s a c d g k sl em pc tp nx) (h1 : P ≠ M) (h2 : P ≠ G) (hX : 4 ≤ m.X.length) (ht : 0 ≤ m.t ∧ m.t < 4611686018427387904) (hT : m.X.getD 3 0 = o) (hne : o ≠ tp)
    (c1 : ∀ w, Calls Try.prog 53 #[.int .u64 (tp : Nat), .int .i64 nx] w fun e w' => e = .returned (.int .u64 (V : Nat)) ∧ Below w.heap.size w w') :
    Calls Try.prog 39 #[.pointer (some ⟨P, 0, none⟩), .pointer (some ⟨M, 0, none⟩)] w fun e w' => e = .returned (.tuple #[]) ∧ IsMem w' M G (touched m 3 3 o) ∧ IsPop w' P s a c d g k sl em 0 tp nx ∧ Chg [P, M, G] w w' := by
  have c0 : ∀ w, IsMem w M G m → Calls Try.prog 52 #[.pointer (some ⟨M, 0, none⟩), .int .i64 3, .int .u64 (tp : Nat), .int .u64 (V : Nat)] w fun e w' => e = .returned (.bool false) ∧ IsMem w' M G (touched m 3 3 o) ∧ Only M G w w' := fun w h => by
    have := Mm.swap_no h 3 tp V (by omega) (by rw [hT]; exact hne) ht
    rw [hT] at this
    exact this
  generalize touched m 3 3 o = m' at *
  have ch := Chg.refl [P, M, G] w
  clear hX ht hT hne
  obtain ⟨l0, l1, l2, l3, l4, l5, l6, l7, l8, l9, l10⟩ := hp.cells
  have fz := hp.free
  go_enter Try.func39, Try.ntmps39
  go_upto_region 1 with fail
  replace hp := (hp.set8 0).below (Below.refl _ _).drew
  replace hm := (mem_set (i := 8) hm h1 h2 (.int .i64 0)).below (Below.refl _ _).drew
  replace ch := (ch.setCell (b := P) (o := 8) (by simp) (.int .i64 0)).then_below (Below.refl _ _).drew
  clear l0 l1 l2 l3 l4 l5 l6 l7 l8 l9 l10 fz
  generalize w.setCell ⟨P, 8, none⟩ (.int .i64 0) = w2 at *
  obtain ⟨l0, l1, l2, l3, l4, l5, l6, l7, l8, l9, l10⟩ := hp.cells
  have fz := hp.free
  go_region_held (fun w' => w'.cell? ⟨P, 9, none⟩ = some (.int .u64 (tp : Nat)) ∧ w'.cell? ⟨P, 10, none⟩ = some (.int .i64 nx)) (with_reducible exact hp.held2) (first
    | (go_at_call 53; with_reducible refine (c1 _).mono ?_; rintro e w3 ⟨rfl, b⟩; replace hp := hp.below b; replace hm := hm.below b; replace ch := ch.then_below b; clear l0 l1 l2 l3 l4 l5 l6 l7 l8 l9 l10 fz; obtain ⟨l0, l1, l2, l3, l4, l5, l6, l7, l8, l9, l10⟩ := hp.cells; have fz := hp.free)
    | (go_at_call 52; with_reducible refine (c0 _ hm).mono ?_; rintro e w3 ⟨rfl, hm1, o1⟩; replace hp := only_pop hp o1 h1 h2; clear hm; have hm := hm1; clear hm1; replace ch := ch.trans (Chg.of_only o1 (by simp) (by simp)); clear l0 l1 l2 l3 l4 l5 l6 l7 l8 l9 l10 fz; obtain ⟨l0, l1, l2, l3, l4, l5, l6, l7, l8, l9, l10⟩ := hp.cells; have fz := hp.free))
  go_wp2
  go_end0
  exact ⟨rfl, hm, hp, ch⟩

set_option maxHeartbeats 400000 in
theorem step_0 {M G P : Nat} {m' : MS} {w : World} {s a c d g k sl : Int} {em : Bool} {tp : Nat} {nx : Int} {sl' : Int} {em' : Bool} {pc' : Int} {tp' : Nat} {nx' : Int}
    (hp : IsPop w P s a c d g k sl em 0 tp nx)
    (c0 : Calls Try.prog 37 #[.pointer (some ⟨P, 0, none⟩), .pointer (some ⟨M, 0, none⟩)] w fun e w' => e = .returned (.tuple #[]) ∧ IsMem w' M G m' ∧ IsPop w' P s a c d g k sl' em' pc' tp' nx' ∧ Chg [P, M, G] w w') :
    Calls Try.prog 21 #[.pointer (some ⟨P, 0, none⟩), .pointer (some ⟨M, 0, none⟩)] w fun e w' => e = .returned (.bool (decide (pc' = 3))) ∧ IsMem w' M G m' ∧ IsPop w' P s a c d g k sl' em' pc' tp' nx' ∧ Chg [P, M, G] w w' := by
  obtain ⟨l0, l1, l2, l3, l4, l5, l6, l7, l8, l9, l10⟩ := hp.cells
  go_enter Try.func21, Try.ntmps21
  go_wp2_with (go_at_call 37; refine c0.mono ?_; rintro e w1 ⟨rfl, hm1, hp1, ch⟩; clear l0 l1 l2 l3 l4 l5 l6 l7 l8 l9 l10; obtain ⟨l0, l1, l2, l3, l4, l5, l6, l7, l8, l9, l10⟩ := hp1.cells)
  go_ret
  exact ⟨rfl, hm1, hp1, ch⟩

set_option maxHeartbeats 400000 in
theorem step_1 {M G P : Nat} {m' : MS} {w : World} {s a c d g k sl : Int} {em : Bool} {tp : Nat} {nx : Int} {sl' : Int} {em' : Bool} {pc' : Int} {tp' : Nat} {nx' : Int}
    (hp : IsPop w P s a c d g k sl em 1 tp nx)
    (c0 : Calls Try.prog 38 #[.pointer (some ⟨P, 0, none⟩), .pointer (some ⟨M, 0, none⟩)] w fun e w' => e = .returned (.tuple #[]) ∧ IsMem w' M G m' ∧ IsPop w' P s a c d g k sl' em' pc' tp' nx' ∧ Chg [P, M, G] w w') :
    Calls Try.prog 21 #[.pointer (some ⟨P, 0, none⟩), .pointer (some ⟨M, 0, none⟩)] w fun e w' => e = .returned (.bool (decide (pc' = 3))) ∧ IsMem w' M G m' ∧ IsPop w' P s a c d g k sl' em' pc' tp' nx' ∧ Chg [P, M, G] w w' := by
  obtain ⟨l0, l1, l2, l3, l4, l5, l6, l7, l8, l9, l10⟩ := hp.cells
  go_enter Try.func21, Try.ntmps21
  go_wp2_with (go_at_call 38; refine c0.mono ?_; rintro e w1 ⟨rfl, hm1, hp1, ch⟩; clear l0 l1 l2 l3 l4 l5 l6 l7 l8 l9 l10; obtain ⟨l0, l1, l2, l3, l4, l5, l6, l7, l8, l9, l10⟩ := hp1.cells)
  go_ret
  exact ⟨rfl, hm1, hp1, ch⟩

set_option maxHeartbeats 400000 in
theorem step_2 {M G P : Nat} {m' : MS} {w : World} {s a c d g k sl : Int} {em : Bool} {tp : Nat} {nx : Int} {sl' : Int} {em' : Bool} {pc' : Int} {tp' : Nat} {nx' : Int}
    (hp : IsPop w P s a c d g k sl em 2 tp nx)
    (c0 : Calls Try.prog 39 #[.pointer (some ⟨P, 0, none⟩), .pointer (some ⟨M, 0, none⟩)] w fun e w' => e = .returned (.tuple #[]) ∧ IsMem w' M G m' ∧ IsPop w' P s a c d g k sl' em' pc' tp' nx' ∧ Chg [P, M, G] w w') :
    Calls Try.prog 21 #[.pointer (some ⟨P, 0, none⟩), .pointer (some ⟨M, 0, none⟩)] w fun e w' => e = .returned (.bool (decide (pc' = 3))) ∧ IsMem w' M G m' ∧ IsPop w' P s a c d g k sl' em' pc' tp' nx' ∧ Chg [P, M, G] w w' := by
  obtain ⟨l0, l1, l2, l3, l4, l5, l6, l7, l8, l9, l10⟩ := hp.cells
  go_enter Try.func21, Try.ntmps21
  go_wp2_with (go_at_call 39; refine c0.mono ?_; rintro e w1 ⟨rfl, hm1, hp1, ch⟩; clear l0 l1 l2 l3 l4 l5 l6 l7 l8 l9 l10; obtain ⟨l0, l1, l2, l3, l4, l5, l6, l7, l8, l9, l10⟩ := hp1.cells)
  go_ret
  exact ⟨rfl, hm1, hp1, ch⟩

set_option maxHeartbeats 400000 in
theorem step_3 {M P : Nat} {w : World} {s a c d g k sl : Int} {em : Bool} {tp : Nat} {nx : Int}
    (hp : IsPop w P s a c d g k sl em 3 tp nx) :
    Calls Try.prog 21 #[.pointer (some ⟨P, 0, none⟩), .pointer (some ⟨M, 0, none⟩)] w fun e w' => e = .returned (.bool true) ∧ w = w' := by
  obtain ⟨l0, l1, l2, l3, l4, l5, l6, l7, l8, l9, l10⟩ := hp.cells
  go_enter Try.func21, Try.ntmps21
  go_wp2
  go_ret
  exact ⟨rfl, rfl⟩

set_option maxHeartbeats 400000 in
theorem step_nil (m : Value) (w : World) : Calls Try.prog 21 #[.pointer none, m] w fun e w' => e = .returned (.bool true) ∧ w = w' := by
  go_enter Try.func21, Try.ntmps21
  go_wp2
  go_ret
  exact ⟨rfl, rfl⟩

end Go.Proofs.Ytcfallaekedmkaa
