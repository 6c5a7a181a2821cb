/- Contracts of a Pop's steps. -/
import Derived.Test.YtcfallaekedmkaaSBase
namespace Go.Proofs.Ytcfallaekedmkaa
open Go.RowKit
open Mm (IsMem MS touched Only)

/-- The letters of a config, for a walk. -/
structure Lt (K : Cf) (s a c d g k : Int) : Prop where
  s : (K.S : Int) = s
  a : K.a = a
  c : (K.C : Int) = c
  d : (K.D : Int) = d
  g : K.g = g
  k : K.k = k

theorem only_pop {M G : Nat} {w w' : World} {P : Nat} {s a c d g k sl : Int} {em : Bool} {pc : Int} {tp : Nat} {nx : Int} (h : IsPop w P s a c d g k sl em pc tp nx) (o : Only M G w w') (h1 : P ≠ M) (h2 : P ≠ G) : IsPop w' P s a c d g k sl em pc tp nx :=
  h.chg (L := [M, G]) (Chg.of_only o (by simp) (by simp)) (by simp [h1, h2])
theorem only_push {M G : Nat} {w w' : World} {P : Nat} {s a c d g k sl pc : Int} {tp : Nat} (h : IsPush w P s a c d g k sl pc tp) (o : Only M G w w') (h1 : P ≠ M) (h2 : P ≠ G) : IsPush w' P s a c d g k sl pc tp :=
  h.chg (L := [M, G]) (Chg.of_only o (by simp) (by simp)) (by simp [h1, h2])
theorem mem_set {w : World} {M G P i : Nat} {m : MS} (h : IsMem w M G m) (h1 : P ≠ M) (h2 : P ≠ G) (v : Value) : IsMem (w.setCell ⟨P, i, none⟩ v) M G m :=
  IsMem.chg (L := [P]) h ((Chg.refl [P] w).setCell (by simp) v) (by simp [Ne.symm h1]) (by simp [Ne.symm h2])

set_option maxHeartbeats 1000000 in
theorem loadTop_at {M G P : Nat} {m : MS} {w : World} {s a c d g k sl : Int} {em : Bool} {pc : Int} {tp : Nat} {nx : Int} {t : Nat} {f : Int}
    (hm : IsMem w M G m) (hp : IsPop w P s a c d g k sl em pc tp nx) (h1 : P ≠ M) (h2 : P ≠ G) (hX : 4 ≤ m.X.length) (ht : 0 ≤ m.t ∧ m.t < 4611686018427387904) (hT : m.X.getD 3 0 = t)
    (c1 : ∀ w, Calls Try.prog 35 #[.agg (cs s a c d g k), .int .u64 (t : Nat)] w fun e w' => e = .returned (.int .i64 f) ∧ Below w.heap.size w w') :
    Calls Try.prog 37 #[.pointer (some ⟨P, 0, none⟩), .pointer (some ⟨M, 0, none⟩)] w fun e w' => e = .returned (.tuple #[]) ∧ IsMem w' M G (touched m 1 3 t) ∧ IsPop w' P s a c d g k sl (if f = -1 then true else em) (if f = -1 then 3 else 1) t nx ∧ Chg [P, M, G] w w' := by
  have c0 := Mm.load_in hm 3 (by omega) ht
  rw [hT] at c0
  generalize touched m 1 3 t = m' at *
  clear hm hX ht hT
  by_cases hf : f = -1
  · subst hf
    obtain ⟨l0, l1, l2, l3, l4, l5, l6, l7, l8, l9, l10⟩ := hp.cells
    have fz := hp.free
    go_enter Try.func37, Try.ntmps37
    go_upto_region 2 with (first
      | (go_at_call 40; refine c0.mono ?_; rintro e w1 ⟨rfl, hm1, o1⟩; replace hp := only_pop hp o1 h1 h2; clear l0 l1 l2 l3 l4 l5 l6 l7 l8 l9 l10 fz; obtain ⟨l0, l1, l2, l3, l4, l5, l6, l7, l8, l9, l10⟩ := hp.cells; have fz := hp.free))
    replace hp := (hp.set9 t).set8 1
    replace hm1 := mem_set (i := 8) (mem_set (i := 9) hm1 h1 h2 (.int .u64 (t : Nat))) h1 h2 (.int .i64 1)
    have ch : Chg [P, M, G] w _ := ((Chg.of_only o1 (by simp) (by simp) : Chg [P, M, G] w w1).setCell (b := P) (o := 9) (by simp) (.int .u64 (t : Nat))).setCell (b := P) (o := 8) (by simp) (.int .i64 1)
    clear l0 l1 l2 l3 l4 l5 l6 l7 l8 l9 l10 fz o1
    generalize (w1.setCell ⟨P, 9, none⟩ (.int .u64 (t : Nat))).setCell ⟨P, 8, none⟩ (.int .i64 1) = w2 at *
    obtain ⟨l0, l1, l2, l3, l4, l5, l6, l7, l8, l9, l10⟩ := hp.cells
    go_region_held (fun w' => w'.cell? ⟨P, 2, none⟩ = some (.int .i64 s) ∧ w'.cell? ⟨P, 3, none⟩ = some (.int .i64 a) ∧ w'.cell? ⟨P, 4, none⟩ = some (.int .i64 c) ∧ w'.cell? ⟨P, 5, none⟩ = some (.int .i64 d) ∧ w'.cell? ⟨P, 6, none⟩ = some (.int .i64 g) ∧ w'.cell? ⟨P, 7, none⟩ = some (.int .i64 k) ∧ w'.cell? ⟨P, 9, none⟩ = some (.int .u64 (t : Nat))) (go_keep) (first
      | (go_at_call 35; with_reducible refine (c1 _).mono ?_; rintro e w3 ⟨rfl, b⟩; replace hp := (hp.below (Below.refl _ _).drew).below b; replace hm1 := (hm1.below (Below.refl _ _).drew).below b; replace ch := (ch.then_below (Below.refl _ _).drew).then_below b; clear l0 l1 l2 l3 l4 l5 l6 l7 l8 l9 l10; obtain ⟨l0, l1, l2, l3, l4, l5, l6, l7, l8, l9, l10⟩ := hp.cells; have fz := hp.free))
    go_wp2
    go_end0
    exact ⟨rfl, mem_set (mem_set hm1 h1 h2 _) h1 h2 _, (hp.set1 true).set8 3, (ch.setCell (by simp) _).setCell (by simp) _⟩
  · obtain ⟨l0, l1, l2, l3, l4, l5, l6, l7, l8, l9, l10⟩ := hp.cells
    have fz := hp.free
    rw [if_neg hf, if_neg hf]
    go_enter Try.func37, Try.ntmps37
    go_upto_region 2 with (first
      | (go_at_call 40; refine c0.mono ?_; rintro e w1 ⟨rfl, hm1, o1⟩; replace hp := only_pop hp o1 h1 h2; clear l0 l1 l2 l3 l4 l5 l6 l7 l8 l9 l10 fz; obtain ⟨l0, l1, l2, l3, l4, l5, l6, l7, l8, l9, l10⟩ := hp.cells; have fz := hp.free))
    replace hp := (hp.set9 t).set8 1
    replace hm1 := mem_set (i := 8) (mem_set (i := 9) hm1 h1 h2 (.int .u64 (t : Nat))) h1 h2 (.int .i64 1)
    have ch : Chg [P, M, G] w _ := ((Chg.of_only o1 (by simp) (by simp) : Chg [P, M, G] w w1).setCell (b := P) (o := 9) (by simp) (.int .u64 (t : Nat))).setCell (b := P) (o := 8) (by simp) (.int .i64 1)
    clear l0 l1 l2 l3 l4 l5 l6 l7 l8 l9 l10 fz o1
    generalize (w1.setCell ⟨P, 9, none⟩ (.int .u64 (t : Nat))).setCell ⟨P, 8, none⟩ (.int .i64 1) = w2 at *
    obtain ⟨l0, l1, l2, l3, l4, l5, l6, l7, l8, l9, l10⟩ := hp.cells
    go_region_held (fun w' => w'.cell? ⟨P, 2, none⟩ = some (.int .i64 s) ∧ w'.cell? ⟨P, 3, none⟩ = some (.int .i64 a) ∧ w'.cell? ⟨P, 4, none⟩ = some (.int .i64 c) ∧ w'.cell? ⟨P, 5, none⟩ = some (.int .i64 d) ∧ w'.cell? ⟨P, 6, none⟩ = some (.int .i64 g) ∧ w'.cell? ⟨P, 7, none⟩ = some (.int .i64 k) ∧ w'.cell? ⟨P, 9, none⟩ = some (.int .u64 (t : Nat))) (go_keep) (first
      | (go_at_call 35; with_reducible refine (c1 _).mono ?_; rintro e w3 ⟨rfl, b⟩; replace hp := (hp.below (Below.refl _ _).drew).below b; replace hm1 := (hm1.below (Below.refl _ _).drew).below b; replace ch := (ch.then_below (Below.refl _ _).drew).then_below b; clear l0 l1 l2 l3 l4 l5 l6 l7 l8 l9 l10; obtain ⟨l0, l1, l2, l3, l4, l5, l6, l7, l8, l9, l10⟩ := hp.cells; have fz := hp.free))
    go_wp2
    go_end0
    exact ⟨rfl, hm1, hp, ch⟩

theorem IsPop.held {w : World} {P : Nat} {s a c d g k sl : Int} {em : Bool} {pc : Int} {tp : Nat} {nx : Int} (h : IsPop w P s a c d g k sl em pc tp nx) :
    w.cell? ⟨P, 2, none⟩ = some (.int .i64 s) ∧ w.cell? ⟨P, 3, none⟩ = some (.int .i64 a) ∧ w.cell? ⟨P, 4, none⟩ = some (.int .i64 c) ∧ w.cell? ⟨P, 5, none⟩ = some (.int .i64 d) ∧ w.cell? ⟨P, 6, none⟩ = some (.int .i64 g) ∧ w.cell? ⟨P, 7, none⟩ = some (.int .i64 k) ∧ w.cell? ⟨P, 9, none⟩ = some (.int .u64 (tp : Nat)) := by
  obtain ⟨_, _, l2, l3, l4, l5, l6, l7, _, l9, _⟩ := h.cells
  exact ⟨l2, l3, l4, l5, l6, l7, l9⟩

set_option maxHeartbeats 2000000 in
theorem loadLink_at {M G P : Nat} {m : MS} {w : World} {s a c d g k sl : Int} {em : Bool} {pc : Int} {tp : Nat} {nx : Int} {v j L : Nat} {f : Int}
    (hm : IsMem w M G m) (hp : IsPop w P s a c d g k sl em pc tp nx) (h1 : P ≠ M) (h2 : P ≠ G) (hX : L < m.X.length) (ht : 0 ≤ m.t ∧ m.t < 4611686018427387904) (hv : m.X.getD L 0 = v)
    (c1 : ∀ w, Calls Try.prog 35 #[.agg (cs s a c d g k), .int .u64 (tp : Nat)] w fun e w' => e = .returned (.int .i64 (j : Nat)) ∧ Below w.heap.size w w')
    (c2 : ∀ w, Calls Try.prog 29 #[.agg (cs s a c d g k), .int .i64 (j : Nat)] w fun e w' => e = .returned (.int .i64 (L : Nat)) ∧ Below w.heap.size w w')
    (c3 : ∀ w, Calls Try.prog 36 #[.agg (cs s a c d g k), .int .u64 (v : Nat)] w fun e w' => e = .returned (.int .i64 f) ∧ Below w.heap.size w w') :
    Calls Try.prog 38 #[.pointer (some ⟨P, 0, none⟩), .pointer (some ⟨M, 0, none⟩)] w fun e w' => e = .returned (.tuple #[]) ∧ IsMem w' M G (touched m 1 L v) ∧ IsPop w' P s a c d g k sl em 2 tp f ∧ Chg [P, M, G] w w' := by
  have c0 : ∀ w, IsMem w M G m → Calls Try.prog 40 #[.pointer (some ⟨M, 0, none⟩), .int .i64 (L : Nat)] w fun e w' => e = .returned (.int .u64 (v : Nat)) ∧ IsMem w' M G (touched m 1 L v) ∧ Only M G w w' := fun w h => by
    have := Mm.load_in h L hX ht
    rw [hv] at this
    exact this
  generalize touched m 1 L v = m' at *
  have ch := Chg.refl [P, M, G] w
  clear hX ht hv
  replace hp := hp.below (Below.refl w.heap.size w).drew
  replace hm := hm.below (Below.refl w.heap.size w).drew
  replace ch := ch.then_below (Below.refl w.heap.size w).drew
  obtain ⟨l0, l1, l2, l3, l4, l5, l6, l7, l8, l9, l10⟩ := hp.cells
  have fz := hp.free
  go_enter Try.func38, Try.ntmps38
  go_upto_region 0 with fail
  go_region_held (fun w' => w'.cell? ⟨P, 2, none⟩ = some (.int .i64 s) ∧ w'.cell? ⟨P, 3, none⟩ = some (.int .i64 a) ∧ w'.cell? ⟨P, 4, none⟩ = some (.int .i64 c) ∧ w'.cell? ⟨P, 5, none⟩ = some (.int .i64 d) ∧ w'.cell? ⟨P, 6, none⟩ = some (.int .i64 g) ∧ w'.cell? ⟨P, 7, none⟩ = some (.int .i64 k) ∧ w'.cell? ⟨P, 9, none⟩ = some (.int .u64 (tp : Nat))) (first | (with_reducible exact hp.held) | (with_reducible exact (hp.set10 _).held)) (first
    | (go_at_call 35; with_reducible refine (c1 _).mono ?_; rintro e w3 ⟨rfl, b⟩; replace hp := hp.below b; replace hm := hm.below b; replace ch := ch.then_below b; clear l0 l1 l2 l3 l4 l5 l6 l7 l8 l9 l10 fz; obtain ⟨l0, l1, l2, l3, l4, l5, l6, l7, l8, l9, l10⟩ := hp.cells; have fz := hp.free)
    | (go_at_call 29; with_reducible refine (c2 _).mono ?_; rintro e w3 ⟨rfl, b⟩; replace hp := hp.below b; replace hm := hm.below b; replace ch := ch.then_below b; clear l0 l1 l2 l3 l4 l5 l6 l7 l8 l9 l10 fz; obtain ⟨l0, l1, l2, l3, l4, l5, l6, l7, l8, l9, l10⟩ := hp.cells; have fz := hp.free)
    | (go_at_call 40; with_reducible refine (c0 _ hm).mono ?_; rintro e w3 ⟨rfl, hm1, o1⟩; replace hp := only_pop hp o1 h1 h2; clear hm; have hm := hm1; clear hm1; replace ch := ch.trans (Chg.of_only o1 (by simp) (by simp)); clear l0 l1 l2 l3 l4 l5 l6 l7 l8 l9 l10 fz; obtain ⟨l0, l1, l2, l3, l4, l5, l6, l7, l8, l9, l10⟩ := hp.cells; have fz := hp.free)
    | (go_at_call 36; with_reducible refine (c3 _).mono ?_; rintro e w3 ⟨rfl, b⟩; replace hp := hp.below b; replace hm := hm.below b; replace ch := ch.then_below b; clear l0 l1 l2 l3 l4 l5 l6 l7 l8 l9 l10 fz; obtain ⟨l0, l1, l2, l3, l4, l5, l6, l7, l8, l9, l10⟩ := hp.cells; have fz := hp.free))
  go_wp2
  go_end0
  exact ⟨rfl, mem_set (mem_set hm h1 h2 _) h1 h2 _, (hp.set10 f).set8 2, (ch.setCell (by simp) _).setCell (by simp) _⟩
end Go.Proofs.Ytcfallaekedmkaa
