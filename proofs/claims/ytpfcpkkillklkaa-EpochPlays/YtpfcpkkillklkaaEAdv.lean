/- Contracts of an Advance's steps. -/
import Derived.Test.YtpfcpkkillklkaaEStep
import Derived.Deep.QuietTactic
import Derived.BigQuiet
namespace Go.Proofs.Ytpfcpkkillklkaa
open Go.RowKit
open Mm (IsMem MS touched Only)

theorem IsAdv.held {w : World} {P E : Nat} {s a c d g k pc : Int} {e : Nat} {wh : Int} (h : IsAdv w P E s a c d g k pc e wh) :
    w.cell? ⟨P, 1, none⟩ = some (.int .i64 s) ∧ w.cell? ⟨P, 2, none⟩ = some (.int .i64 a) ∧ w.cell? ⟨P, 3, none⟩ = some (.int .i64 c) ∧ w.cell? ⟨P, 4, none⟩ = some (.int .i64 d) ∧ w.cell? ⟨P, 5, none⟩ = some (.int .i64 g) ∧ w.cell? ⟨P, 6, none⟩ = some (.int .i64 k) ∧ w.cell? ⟨P, 9, none⟩ = some (.int .i64 wh) := by
  obtain ⟨_, l1, l2, l3, l4, l5, l6, _, _, l9⟩ := h.cells
  exact ⟨l1, l2, l3, l4, l5, l6, l9⟩

/-- What is known of the world within a step. -/
structure InS (w wr : World) (P M G : Nat) (m : MS) (E : Nat) (s a c d g k pc : Int) (e : Nat) (wh : Int) : Prop where
  mem : IsMem wr M G m
  adv : IsAdv wr P E s a c d g k pc e wh
  chg : Chg [P, M, G] w wr
  pm : P ≠ M
  pg : P ≠ G

theorem InS.below {w wr w' : World} {P M G : Nat} {m : MS} {E : Nat} {s a c d g k pc : Int} {e : Nat} {wh : Int} (h : InS w wr P M G m E s a c d g k pc e wh) (b : Below wr.heap.size wr w') : InS w w' P M G m E s a c d g k pc e wh :=
  ⟨h.mem.below b, h.adv.below b, h.chg.then_below b, h.pm, h.pg⟩
theorem InS.drew {w wr : World} {P M G : Nat} {m : MS} {E : Nat} {s a c d g k pc : Int} {e : Nat} {wh : Int} (h : InS w wr P M G m E s a c d g k pc e wh) : InS w wr.drew P M G m E s a c d g k pc e wh := h.below (Below.refl _ _).drew
theorem InS.only {w wr w' : World} {P M G : Nat} {m m' : MS} {E : Nat} {s a c d g k pc : Int} {e : Nat} {wh : Int} (h : InS w wr P M G m E s a c d g k pc e wh) (hm : IsMem w' M G m') (o : Only M G wr w') : InS w w' P M G m' E s a c d g k pc e wh :=
  ⟨hm, h.adv.only o h.pm h.pg, h.chg.trans (Chg.of_only o (by simp) (by simp)), h.pm, h.pg⟩
theorem InS.set0 {w wr : World} {P M G : Nat} {m : MS} {E : Nat} {s a c d g k pc : Int} {e : Nat} {wh : Int} (h : InS w wr P M G m E s a c d g k pc e wh) (v : Nat) : InS w (wr.setCell ⟨P, 0, none⟩ (.int .u64 (v : Nat))) P M G m v s a c d g k pc e wh :=
  ⟨mem_set h.mem h.pm h.pg _, h.adv.set0 v, h.chg.setCell (by simp) _, h.pm, h.pg⟩
theorem InS.set7 {w wr : World} {P M G : Nat} {m : MS} {E : Nat} {s a c d g k pc : Int} {e : Nat} {wh : Int} (h : InS w wr P M G m E s a c d g k pc e wh) (v : Int) : InS w (wr.setCell ⟨P, 7, none⟩ (.int .i64 v)) P M G m E s a c d g k v e wh :=
  ⟨mem_set h.mem h.pm h.pg _, h.adv.set7 v, h.chg.setCell (by simp) _, h.pm, h.pg⟩
theorem InS.set8 {w wr : World} {P M G : Nat} {m : MS} {E : Nat} {s a c d g k pc : Int} {e : Nat} {wh : Int} (h : InS w wr P M G m E s a c d g k pc e wh) (v : Nat) : InS w (wr.setCell ⟨P, 8, none⟩ (.int .u64 (v : Nat))) P M G m E s a c d g k pc v wh :=
  ⟨mem_set h.mem h.pm h.pg _, h.adv.set8 v, h.chg.setCell (by simp) _, h.pm, h.pg⟩
theorem InS.set9 {w wr : World} {P M G : Nat} {m : MS} {E : Nat} {s a c d g k pc : Int} {e : Nat} {wh : Int} (h : InS w wr P M G m E s a c d g k pc e wh) (v : Int) : InS w (wr.setCell ⟨P, 9, none⟩ (.int .i64 v)) P M G m E s a c d g k pc e v :=
  ⟨mem_set h.mem h.pm h.pg _, h.adv.set9 v, h.chg.setCell (by simp) _, h.pm, h.pg⟩
theorem InS.start {w : World} {P M G : Nat} {m : MS} {E : Nat} {s a c d g k pc : Int} {e : Nat} {wh : Int} (hm : IsMem w M G m) (hp : IsAdv w P E s a c d g k pc e wh) (h1 : P ≠ M) (h2 : P ≠ G) : InS w w P M G m E s a c d g k pc e wh := ⟨hm, hp, Chg.refl _ _, h1, h2⟩

set_option maxHeartbeats 1000000 in
theorem adv_0 {M G P : Nat} {m : MS} {w : World} {E e v : Nat} {s a c d g k wh : Int} (hm : IsMem w M G m) (hp : IsAdv w P E s a c d g k 0 e wh) (h1 : P ≠ M) (h2 : P ≠ G) (hX : 1 < m.X.length) (ht : 0 ≤ m.t ∧ m.t < 4611686018427387904) (hv : m.X.getD 1 0 = v) :
    Calls Try.prog 14 #[.pointer (some ⟨P, 0, none⟩), .pointer (some ⟨M, 0, none⟩)] w fun r w' => r = .returned (.bool false) ∧ IsMem w' M G (touched m 1 1 v) ∧ IsAdv w' P E s a c d g k 1 v 0 ∧ Chg [P, M, G] w w' := by
  have c0 := Mm.load_in hm 1 hX ht
  rw [hv] at c0
  have is := InS.start hm hp h1 h2
  generalize touched m 1 1 v = m' at *
  obtain ⟨l0, l1, l2, l3, l4, l5, l6, l7, l8, l9⟩ := hp.cells
  clear hm hX ht hv hp
  go_enter Try.func14, Try.ntmps14
  go_wp2_with (go_at_call 21; refine c0.mono ?_; rintro e w1 ⟨rfl, hm1, o1⟩; replace is := is.only hm1 o1; clear l0 l1 l2 l3 l4 l5 l6 l7 l8 l9; obtain ⟨l0, l1, l2, l3, l4, l5, l6, l7, l8, l9⟩ := is.adv.cells; have fz := is.adv.free)
  go_ret
  have z := ((is.set8 v).set9 0).set7 1
  exact ⟨rfl, z.mem, z.adv, z.chg⟩

set_option maxHeartbeats 1000000 in
theorem adv_3 {M P : Nat} {w : World} {E e : Nat} {s a c d g k wh : Int} (hp : IsAdv w P E s a c d g k 3 e wh) :
    Calls Try.prog 14 #[.pointer (some ⟨P, 0, none⟩), .pointer (some ⟨M, 0, none⟩)] w fun r w' => r = .returned (.bool true) ∧ w = w' := by
  obtain ⟨l0, l1, l2, l3, l4, l5, l6, l7, l8, l9⟩ := hp.cells
  go_enter Try.func14, Try.ntmps14
  go_wp2
  go_ret
  exact ⟨rfl, rfl⟩

/-! The swap. -/
set_option maxHeartbeats 1000000 in
theorem swapEpoch_yes {M G P : Nat} {m : MS} {w : World} {E e : Nat} {s a c d g k pc wh : Int} (hm : IsMem w M G m) (hp : IsAdv w P E s a c d g k pc e wh) (h1 : P ≠ M) (h2 : P ≠ G) (hX : 1 < m.X.length) (ht : 0 ≤ m.t ∧ m.t < 4611686018427387904) (hv : m.X.getD 1 0 = e) (he : e < 4611686018427387904) :
    Calls Try.prog 31 #[.pointer (some ⟨P, 0, none⟩), .pointer (some ⟨M, 0, none⟩)] w fun r w' => r = .returned (.tuple #[]) ∧ IsMem w' M G (touched m 3 1 (e + 1)) ∧ IsAdv w' P (e + 1) s a c d g k 3 e wh ∧ Chg [P, M, G] w w' := by
  have c0 : ∀ w, IsMem w M G m → Calls Try.prog 46 #[.pointer (some ⟨M, 0, none⟩), .int .i64 1, .int .u64 (e : Nat), .int .u64 (IntKind.u64.wrap ((e : Int) + 1))] w fun r w' => r = .returned (.bool true) ∧ IsMem w' M G (touched m 3 1 (e + 1)) ∧ Only M G w w' := fun w h => by
    rw [show IntKind.u64.wrap ((e : Int) + 1) = ((e + 1 : Nat) : Int) by rw [IntKind.wrap_u64]; omega]
    exact Mm.swap_yes h 1 e (e + 1) hX (by omega) hv ht
  have is := InS.start hm hp h1 h2
  generalize touched m 3 1 (e + 1) = m' at *
  clear hm hX ht hv hp
  have he' : 0 ≤ (e : Int) ∧ (e : Int) < 4611686018427387904 := by omega
  have l7 := is.adv.cells.2.2.2.2.2.2.2.1
  have fz := is.adv.free 7
  go_enter Try.func31, Try.ntmps31
  go_upto_region 1 with fail
  replace is := (is.set7 0)
  clear l7 fz
  generalize w.setCell ⟨P, 7, none⟩ (.int .i64 0) = w1 at *
  replace is := is.drew
  have l8 := is.adv.cells.2.2.2.2.2.2.2.2.1
  go_region_held (fun w' => w'.cell? ⟨P, 8, none⟩ = some (.int .u64 (e : Nat))) (first | (with_reducible exact is.adv.cells.2.2.2.2.2.2.2.2.1)) (first
    | (go_at_call 46; with_reducible refine (c0 _ is.mem).mono ?_; rintro r w3 ⟨rfl, hm1, o1⟩; replace is := is.only hm1 o1))
  clear l8
  obtain ⟨l0, l1, l2, l3, l4, l5, l6, l7, l8, l9⟩ := is.adv.cells
  have fz := is.adv.free
  go_wp2
  go_end0
  have z := (is.set0 (e + 1)).set7 3
  rw [show (((e + 1 : Nat)) : Int) = (e : Int) + 1 by omega] at z
  exact ⟨rfl, z.mem, z.adv, z.chg⟩

set_option maxHeartbeats 1000000 in
theorem swapEpoch_no {M G P : Nat} {m : MS} {w : World} {E e v : Nat} {s a c d g k pc wh : Int} (hm : IsMem w M G m) (hp : IsAdv w P E s a c d g k pc e wh) (h1 : P ≠ M) (h2 : P ≠ G) (hX : 1 < m.X.length) (ht : 0 ≤ m.t ∧ m.t < 4611686018427387904) (hv : m.X.getD 1 0 = v) (hne : v ≠ e) (he : e < 4611686018427387904) :
    Calls Try.prog 31 #[.pointer (some ⟨P, 0, none⟩), .pointer (some ⟨M, 0, none⟩)] w fun r w' => r = .returned (.tuple #[]) ∧ IsMem w' M G (touched m 3 1 v) ∧ IsAdv w' P E s a c d g k 0 e wh ∧ Chg [P, M, G] w w' := by
  have c0 : ∀ w, IsMem w M G m → Calls Try.prog 46 #[.pointer (some ⟨M, 0, none⟩), .int .i64 1, .int .u64 (e : Nat), .int .u64 (IntKind.u64.wrap ((e : Int) + 1))] w fun r w' => r = .returned (.bool false) ∧ IsMem w' M G (touched m 3 1 v) ∧ Only M G w w' := fun w h => by
    rw [show IntKind.u64.wrap ((e : Int) + 1) = ((e + 1 : Nat) : Int) by rw [IntKind.wrap_u64]; omega]
    have := Mm.swap_no h 1 e (e + 1) hX (by rw [hv]; exact hne) ht
    rw [hv] at this
    exact this
  have is := InS.start hm hp h1 h2
  generalize touched m 3 1 v = m' at *
  clear hm hX ht hv hp hne
  have he' : 0 ≤ (e : Int) ∧ (e : Int) < 4611686018427387904 := by omega
  have l7 := is.adv.cells.2.2.2.2.2.2.2.1
  have fz := is.adv.free 7
  go_enter Try.func31, Try.ntmps31
  go_upto_region 1 with fail
  replace is := (is.set7 0)
  clear l7 fz
  generalize w.setCell ⟨P, 7, none⟩ (.int .i64 0) = w1 at *
  replace is := is.drew
  have l8 := is.adv.cells.2.2.2.2.2.2.2.2.1
  go_region_held (fun w' => w'.cell? ⟨P, 8, none⟩ = some (.int .u64 (e : Nat))) (first | (with_reducible exact is.adv.cells.2.2.2.2.2.2.2.2.1)) (first
    | (go_at_call 46; with_reducible refine (c0 _ is.mem).mono ?_; rintro r w3 ⟨rfl, hm1, o1⟩; replace is := is.only hm1 o1))
  go_wp2
  go_end0
  exact ⟨rfl, is.mem, is.adv, is.chg⟩

/-! The look at a pin. -/
set_option maxHeartbeats 2000000 in
theorem loadPin_go {M G P : Nat} {m : MS} {w : World} {E e j : Nat} {s a c d g k pc : Int} {v : Nat} (hm : IsMem w M G m) (hp : IsAdv w P E s a c d g k pc e (j : Nat)) (h1 : P ≠ M) (h2 : P ≠ G) (hX : 4 + j < m.X.length) (ht : 0 ≤ m.t ∧ m.t < 4611686018427387904) (hv : m.X.getD (4 + j) 0 = v) (he : e < 4611686018427387904) (hj : j < 1000)
    (c1 : ∀ w, Calls Try.prog 22 #[.agg (cs s a c d g k), .int .i64 (j : Nat)] w fun e w' => e = .returned (.int .i64 ((4 + j : Nat) : Int)) ∧ Below w.heap.size w w') (hvv : v = 0 ∨ v = 2 * e + 1) :
    Calls Try.prog 30 #[.pointer (some ⟨P, 0, none⟩), .pointer (some ⟨M, 0, none⟩)] w fun r w' => r = .returned (.tuple #[]) ∧ IsMem w' M G (touched m 1 (4 + j) v) ∧ IsAdv w' P E s a c d g k (if c ≤ ((j + 1 : Nat) : Int) then 2 else pc) e ((j + 1 : Nat) : Int) ∧ Chg [P, M, G] w w' := by
  have c0 : ∀ w, IsMem w M G m → Calls Try.prog 21 #[.pointer (some ⟨M, 0, none⟩), .int .i64 ((4 + j : Nat) : Int)] w fun r w' => r = .returned (.int .u64 (v : Nat)) ∧ IsMem w' M G (touched m 1 (4 + j) v) ∧ Only M G w w' := fun w h => by
    have := Mm.load_in h (4 + j) hX ht
    rw [hv] at this
    exact this
  have c2 := ewithin_any e he
  have is := InS.start hm hp h1 h2
  generalize touched m 1 (4 + j) v = m' at *
  clear hm hX ht hv hp
  generalize ((4 + j : Nat) : Int) = pl at *
  rw [show ((j + 1 : Nat) : Int) = (j : Int) + 1 by omega]
  obtain ⟨pc', hpc⟩ : ∃ pc' : Int, (if c ≤ (j : Int) + 1 then 2 else pc) = pc' := ⟨_, rfl⟩
  rw [hpc]
  have hcc : c ≤ (j : Int) + 1 ∧ pc' = 2 ∨ (j : Int) + 1 < c ∧ pc' = pc := by
    rw [← hpc]
    split
    · left; omega
    · right; omega
  clear hpc
  have hj' : 0 ≤ (j : Int) ∧ (j : Int) < 1000 := by omega
  replace is := is.drew
  obtain ⟨l0, l1, l2, l3, l4, l5, l6, l7, l8, l9⟩ := is.adv.cells
  go_enter Try.func30, Try.ntmps30
  go_upto_region 0 with fail
  go_region_held (fun w' => w'.cell? ⟨P, 1, none⟩ = some (.int .i64 s) ∧ w'.cell? ⟨P, 2, none⟩ = some (.int .i64 a) ∧ w'.cell? ⟨P, 3, none⟩ = some (.int .i64 c) ∧ w'.cell? ⟨P, 4, none⟩ = some (.int .i64 d) ∧ w'.cell? ⟨P, 5, none⟩ = some (.int .i64 g) ∧ w'.cell? ⟨P, 6, none⟩ = some (.int .i64 k) ∧ w'.cell? ⟨P, 9, none⟩ = some (.int .i64 (j : Nat))) (first | (with_reducible exact is.adv.held)) (first
    | (go_at_call 22; with_reducible refine (c1 _).mono ?_; rintro r w3 ⟨rfl, b⟩; replace is := is.below b; clear l0 l1 l2 l3 l4 l5 l6 l7 l8 l9; obtain ⟨l0, l1, l2, l3, l4, l5, l6, l7, l8, l9⟩ := is.adv.cells)
    | (go_at_call 21; with_reducible refine (c0 _ is.mem).mono ?_; rintro r w3 ⟨rfl, hm1, o1⟩; replace is := is.only hm1 o1; clear l0 l1 l2 l3 l4 l5 l6 l7 l8 l9; obtain ⟨l0, l1, l2, l3, l4, l5, l6, l7, l8, l9⟩ := is.adv.cells))
  clear c0 c1
  have fz9 := is.adv.free 9
  clear hm1 o1
  rw [show ((2 * e + 1 : Nat) : Int) = 2 * (e : Int) + 1 by omega] at c2
  rcases hcc with ⟨hc, rfl⟩ | ⟨hc, rfl⟩
  all_goals
    rcases hvv with rfl | rfl
    all_goals
      go_upto_region 2 with (go_at_call 34; with_reducible refine (c2 _).mono ?_; rintro r w4 ⟨rfl, rfl⟩)
      go_upto_region 3 with fail
      replace is := is.set9 ((j : Int) + 1)
      clear l0 l1 l2 l3 l4 l5 l6 l7 l8 l9 fz9 c2
      generalize w3.setCell ⟨P, 9, none⟩ (.int .i64 ((j : Int) + 1)) = w4 at *
      obtain ⟨l0, l1, l2, l3, l4, l5, l6, l7, l8, l9⟩ := is.adv.cells
      go_quiet (fail)
      replace is := is.below (below_drewN (Below.refl _ _) nq)
      clear l0 l1 l2 l3 l4 l5 l6 l7 l8 l9
      have l7 := is.adv.cells.2.2.2.2.2.2.2.1
      have fz := is.adv.free 7
      go_wp2
      go_end0
      first
        | (exact ⟨rfl, (is.set7 2).mem, (is.set7 2).adv, (is.set7 2).chg⟩)
        | (exact ⟨rfl, is.mem, is.adv, is.chg⟩)

set_option maxHeartbeats 2000000 in
theorem loadPin_stay {M G P : Nat} {m : MS} {w : World} {E e j : Nat} {s a c d g k pc : Int} {v : Nat} (hm : IsMem w M G m) (hp : IsAdv w P E s a c d g k pc e (j : Nat)) (h1 : P ≠ M) (h2 : P ≠ G) (hX : 4 + j < m.X.length) (ht : 0 ≤ m.t ∧ m.t < 4611686018427387904) (hv : m.X.getD (4 + j) 0 = v) (he : e < 4611686018427387904)
    (c1 : ∀ w, Calls Try.prog 22 #[.agg (cs s a c d g k), .int .i64 (j : Nat)] w fun e w' => e = .returned (.int .i64 ((4 + j : Nat) : Int)) ∧ Below w.heap.size w w') (hv0 : v ≠ 0) (hv1 : v ≠ 2 * e + 1) :
    Calls Try.prog 30 #[.pointer (some ⟨P, 0, none⟩), .pointer (some ⟨M, 0, none⟩)] w fun r w' => r = .returned (.tuple #[]) ∧ IsMem w' M G (touched m 1 (4 + j) v) ∧ IsAdv w' P E s a c d g k pc e (j : Nat) ∧ Chg [P, M, G] w w' := by
  have c0 : ∀ w, IsMem w M G m → Calls Try.prog 21 #[.pointer (some ⟨M, 0, none⟩), .int .i64 ((4 + j : Nat) : Int)] w fun r w' => r = .returned (.int .u64 (v : Nat)) ∧ IsMem w' M G (touched m 1 (4 + j) v) ∧ Only M G w w' := fun w h => by
    have := Mm.load_in h (4 + j) hX ht
    rw [hv] at this
    exact this
  have c2 := ewithin_any e he
  have is := InS.start hm hp h1 h2
  generalize touched m 1 (4 + j) v = m' at *
  clear hm hX ht hv hp
  generalize ((4 + j : Nat) : Int) = pl at *
  replace is := is.drew
  obtain ⟨l0, l1, l2, l3, l4, l5, l6, l7, l8, l9⟩ := is.adv.cells
  go_enter Try.func30, Try.ntmps30
  go_upto_region 0 with fail
  go_region_held (fun w' => w'.cell? ⟨P, 1, none⟩ = some (.int .i64 s) ∧ w'.cell? ⟨P, 2, none⟩ = some (.int .i64 a) ∧ w'.cell? ⟨P, 3, none⟩ = some (.int .i64 c) ∧ w'.cell? ⟨P, 4, none⟩ = some (.int .i64 d) ∧ w'.cell? ⟨P, 5, none⟩ = some (.int .i64 g) ∧ w'.cell? ⟨P, 6, none⟩ = some (.int .i64 k) ∧ w'.cell? ⟨P, 9, none⟩ = some (.int .i64 (j : Nat))) (first | (with_reducible exact is.adv.held)) (first
    | (go_at_call 22; with_reducible refine (c1 _).mono ?_; rintro r w3 ⟨rfl, b⟩; replace is := is.below b; clear l0 l1 l2 l3 l4 l5 l6 l7 l8 l9; obtain ⟨l0, l1, l2, l3, l4, l5, l6, l7, l8, l9⟩ := is.adv.cells)
    | (go_at_call 21; with_reducible refine (c0 _ is.mem).mono ?_; rintro r w3 ⟨rfl, hm1, o1⟩; replace is := is.only hm1 o1; clear l0 l1 l2 l3 l4 l5 l6 l7 l8 l9; obtain ⟨l0, l1, l2, l3, l4, l5, l6, l7, l8, l9⟩ := is.adv.cells))
  clear c0 c1 hm1 o1
  have z0 : (v : Int) ≠ 0 := by omega
  have z1 : (v : Int) ≠ ((2 * e + 1 : Nat) : Int) := by omega
  generalize ((2 * e + 1 : Nat) : Int) = y at *
  generalize (v : Int) = x at *
  clear hv0 hv1
  replace z0 : (x != 0) = true := by simpa using z0
  replace z1 : (x != y) = true := by simpa using z1
  go_wp2_with (go_at_call 34; with_reducible refine (c2 _).mono ?_; rintro r w4 ⟨rfl, rfl⟩)
  refine bodyPost_ret (results_none rfl _ _ _) rfl ?_
  exact ⟨rfl, is.mem, is.adv, is.chg⟩

/-! A step. -/
set_option maxHeartbeats 1000000 in
theorem adv_1go {M G P : Nat} {m : MS} {w : World} {E e j : Nat} {s a c d g k : Int} {v : Nat} (hm : IsMem w M G m) (hp : IsAdv w P E s a c d g k 1 e (j : Nat)) (h1 : P ≠ M) (h2 : P ≠ G) (hX : 4 + j < m.X.length) (ht : 0 ≤ m.t ∧ m.t < 4611686018427387904) (hv : m.X.getD (4 + j) 0 = v) (he : e < 4611686018427387904) (hj : j < 1000)
    (c1 : ∀ w, Calls Try.prog 22 #[.agg (cs s a c d g k), .int .i64 (j : Nat)] w fun e w' => e = .returned (.int .i64 ((4 + j : Nat) : Int)) ∧ Below w.heap.size w w') (hvv : v = 0 ∨ v = 2 * e + 1) :
    Calls Try.prog 14 #[.pointer (some ⟨P, 0, none⟩), .pointer (some ⟨M, 0, none⟩)] w fun r w' => r = .returned (.bool false) ∧ IsMem w' M G (touched m 1 (4 + j) v) ∧ IsAdv w' P E s a c d g k (if c ≤ ((j + 1 : Nat) : Int) then 2 else 1) e ((j + 1 : Nat) : Int) ∧ Chg [P, M, G] w w' := by
  have c0 := loadPin_go hm hp h1 h2 hX ht hv he hj c1 hvv
  clear hm hX ht hv c1 hvv he
  obtain ⟨l0, l1, l2, l3, l4, l5, l6, l7, l8, l9⟩ := hp.cells
  obtain ⟨pc', hpc'⟩ : ∃ pc' : Int, (if c ≤ ((j + 1 : Nat) : Int) then 2 else 1) = pc' := ⟨_, rfl⟩
  rw [hpc'] at c0 ⊢
  have hb : pc' = 2 ∨ pc' = 1 := by rw [← hpc']; split <;> simp
  clear hpc'
  go_enter Try.func14, Try.ntmps14
  go_upto_region 12 with (go_at_call 30; refine c0.mono ?_; rintro e w1 ⟨rfl, hm1, hp1, o1⟩; clear l0 l1 l2 l3 l4 l5 l6 l7 l8 l9 hp; obtain ⟨l0, l1, l2, l3, l4, l5, l6, l7, l8, l9⟩ := hp1.cells)
  rcases hb with rfl | rfl
  all_goals
    go_wp2
    go_ret
    exact ⟨rfl, hm1, hp1, o1⟩

set_option maxHeartbeats 1000000 in
theorem adv_1stay {M G P : Nat} {m : MS} {w : World} {E e j : Nat} {s a c d g k : Int} {v : Nat} (hm : IsMem w M G m) (hp : IsAdv w P E s a c d g k 1 e (j : Nat)) (h1 : P ≠ M) (h2 : P ≠ G) (hX : 4 + j < m.X.length) (ht : 0 ≤ m.t ∧ m.t < 4611686018427387904) (hv : m.X.getD (4 + j) 0 = v) (he : e < 4611686018427387904)
    (c1 : ∀ w, Calls Try.prog 22 #[.agg (cs s a c d g k), .int .i64 (j : Nat)] w fun e w' => e = .returned (.int .i64 ((4 + j : Nat) : Int)) ∧ Below w.heap.size w w') (hv0 : v ≠ 0) (hv1 : v ≠ 2 * e + 1) :
    Calls Try.prog 14 #[.pointer (some ⟨P, 0, none⟩), .pointer (some ⟨M, 0, none⟩)] w fun r w' => r = .returned (.bool false) ∧ IsMem w' M G (touched m 1 (4 + j) v) ∧ IsAdv w' P E s a c d g k 1 e (j : Nat) ∧ Chg [P, M, G] w w' := by
  have c0 := loadPin_stay hm hp h1 h2 hX ht hv he c1 hv0 hv1
  clear hm hX ht hv c1 hv0 hv1 he
  obtain ⟨l0, l1, l2, l3, l4, l5, l6, l7, l8, l9⟩ := hp.cells
  go_enter Try.func14, Try.ntmps14
  go_wp2_with (go_at_call 30; refine c0.mono ?_; rintro e w1 ⟨rfl, hm1, hp1, o1⟩; clear l0 l1 l2 l3 l4 l5 l6 l7 l8 l9 hp; obtain ⟨l0, l1, l2, l3, l4, l5, l6, l7, l8, l9⟩ := hp1.cells)
  go_ret
  exact ⟨rfl, hm1, hp1, o1⟩

set_option maxHeartbeats 1000000 in
theorem adv_2y {M G P : Nat} {m : MS} {w : World} {E e : Nat} {s a c d g k wh : Int} (hm : IsMem w M G m) (hp : IsAdv w P E s a c d g k 2 e wh) (h1 : P ≠ M) (h2 : P ≠ G) (hX : 1 < m.X.length) (ht : 0 ≤ m.t ∧ m.t < 4611686018427387904) (hv : m.X.getD 1 0 = e) (he : e < 4611686018427387904) :
    Calls Try.prog 14 #[.pointer (some ⟨P, 0, none⟩), .pointer (some ⟨M, 0, none⟩)] w fun r w' => r = .returned (.bool true) ∧ IsMem w' M G (touched m 3 1 (e + 1)) ∧ IsAdv w' P (e + 1) s a c d g k 3 e wh ∧ Chg [P, M, G] w w' := by
  have c0 := swapEpoch_yes hm hp h1 h2 hX ht hv he
  clear hm hX ht hv he
  obtain ⟨l0, l1, l2, l3, l4, l5, l6, l7, l8, l9⟩ := hp.cells
  go_enter Try.func14, Try.ntmps14
  go_wp2_with (go_at_call 31; refine c0.mono ?_; rintro e w1 ⟨rfl, hm1, hp1, o1⟩; clear l0 l1 l2 l3 l4 l5 l6 l7 l8 l9 hp; obtain ⟨l0, l1, l2, l3, l4, l5, l6, l7, l8, l9⟩ := hp1.cells)
  go_ret
  exact ⟨rfl, hm1, hp1, o1⟩

set_option maxHeartbeats 1000000 in
theorem adv_2n {M G P : Nat} {m : MS} {w : World} {E e v : Nat} {s a c d g k wh : Int} (hm : IsMem w M G m) (hp : IsAdv w P E s a c d g k 2 e wh) (h1 : P ≠ M) (h2 : P ≠ G) (hX : 1 < m.X.length) (ht : 0 ≤ m.t ∧ m.t < 4611686018427387904) (hv : m.X.getD 1 0 = v) (hne : v ≠ e) (he : e < 4611686018427387904) :
    Calls Try.prog 14 #[.pointer (some ⟨P, 0, none⟩), .pointer (some ⟨M, 0, none⟩)] w fun r w' => r = .returned (.bool false) ∧ IsMem w' M G (touched m 3 1 v) ∧ IsAdv w' P E s a c d g k 0 e wh ∧ Chg [P, M, G] w w' := by
  have c0 := swapEpoch_no hm hp h1 h2 hX ht hv hne he
  clear hm hX ht hv he
  obtain ⟨l0, l1, l2, l3, l4, l5, l6, l7, l8, l9⟩ := hp.cells
  go_enter Try.func14, Try.ntmps14
  go_wp2_with (go_at_call 31; refine c0.mono ?_; rintro e w1 ⟨rfl, hm1, hp1, o1⟩; clear l0 l1 l2 l3 l4 l5 l6 l7 l8 l9 hp; obtain ⟨l0, l1, l2, l3, l4, l5, l6, l7, l8, l9⟩ := hp1.cells)
  go_ret
  exact ⟨rfl, hm1, hp1, o1⟩
end Go.Proofs.Ytpfcpkkillklkaa
