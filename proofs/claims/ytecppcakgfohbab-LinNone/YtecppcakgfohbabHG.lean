/- The closure that sorted hands on. -/
import Derived.Test.YtecppcakgfohbabHF
namespace Go.Proofs.Ytecppcakgfohbab
open Go.RowKit
set_option linter.unusedSimpArgs false
set_option linter.unusedVariables false

set_option maxRecDepth 100000 in
set_option maxHeartbeats 4000000 in
theorem clP_any {W : World} {P1 P2 : Nat} {ad : Option Addr} {n cap : Nat} {E : List Ev} (hE : n = E.length) (h1 : W.cell? ⟨P1, 0, none⟩ = some (.func (.func 37) #[] #[])) (h2 : W.cell? ⟨P2, 0, none⟩ = some (.slice ad n cap)) (hR : RdEv W ad E) (z1 : P1 < W.heap.size) (z2 : P2 < W.heap.size) {x y : Nat} (hx : x < n) (hy : y < n) :
    Calls Try.prog 47 #[.int .i64 (x : Int), .int .i64 (y : Int), .pointer (some ⟨P1, 0, none⟩), .pointer (some ⟨P2, 0, none⟩)] W fun r w' => r = .returned (.int .i64 (ptI (E.getD x default) (E.getD y default))) ∧ Below W.heap.size W w' := by
  obtain ⟨e, he⟩ : ∃ e, E[x]? = some e := ⟨_, List.getElem?_eq_getElem (by omega)⟩
  obtain ⟨f, hf⟩ : ∃ f, E[y]? = some f := ⟨_, List.getElem?_eq_getElem (by omega)⟩
  rw [List.getD_eq_getElem?_getD, List.getD_eq_getElem?_getD, he, hf, Option.getD_some, Option.getD_some]
  have c1 := fun (w' : World) => byPoint_any e f w'
  obtain ⟨r, hr⟩ : ∃ r, ptI e f = r := ⟨_, rfl⟩
  rw [hr] at c1 ⊢
  clear hr
  unfold Ev.row at c1
  replace c1 := hid1 c1
  have k1 := hid1 (fun (w' : World) (b : Below W.heap.size W w') => (b.cell (p := ⟨P1, 0, none⟩) z1).trans h1)
  have k2 := hid1 (fun (w' : World) (b : Below W.heap.size W w') => (b.cell (p := ⟨P2, 0, none⟩) z2).trans h2)
  obtain ⟨g, off, ha, hg, -⟩ := hR x e he
  subst ha
  have k3 : ∀ w', Below W.heap.size W w' → w'.cell? ⟨g, off + x * 14, none⟩ = some (.int .i64 e.cl) ∧ w'.cell? ⟨g, off + x * 14 + 1, none⟩ = some (.int .i64 e.op) ∧ w'.cell? ⟨g, off + x * 14 + 2, none⟩ = some (.int .i64 e.bg) ∧ w'.cell? ⟨g, off + x * 14 + 3, none⟩ = some (.int .i64 e.pt) ∧ w'.cell? ⟨g, off + x * 14 + 4, none⟩ = some (.int .i64 e.en) ∧ w'.cell? ⟨g, off + x * 14 + 5, none⟩ = some (.bool e.bh) ∧ w'.cell? ⟨g, off + x * 14 + 6, none⟩ = some (.int .i64 e.kd) ∧ w'.cell? ⟨g, off + x * 14 + 7, none⟩ = some (.int .i64 e.nn) ∧ w'.cell? ⟨g, off + x * 14 + 8, none⟩ = some (.int .u64 (e.hh : Nat)) ∧ w'.cell? ⟨g, off + x * 14 + 9, none⟩ = some (.int .u64 (e.hx : Nat)) ∧ w'.cell? ⟨g, off + x * 14 + 10, none⟩ = some (.int .u64 (e.hy : Nat)) ∧ w'.cell? ⟨g, off + x * 14 + 11, none⟩ = some (.int .i64 e.er) ∧ w'.cell? ⟨g, off + x * 14 + 12, none⟩ = some (.int .u64 (e.ah : Nat)) ∧ w'.cell? ⟨g, off + x * 14 + 13, none⟩ = some (.bool e.ay) := fun w' b => by
    obtain ⟨g', off', ha, hg', hc⟩ := (hR.below b) x e he
    simp only [Option.some.injEq, Addr.mk.injEq] at ha
    obtain ⟨rfl, rfl, -⟩ := ha
    exact ⟨hc 0 (by decide), hc 1 (by decide), hc 2 (by decide), hc 3 (by decide), hc 4 (by decide), hc 5 (by decide), hc 6 (by decide), hc 7 (by decide), hc 8 (by decide), hc 9 (by decide), hc 10 (by decide), hc 11 (by decide), hc 12 (by decide), hc 13 (by decide)⟩
  have k4 : ∀ w', Below W.heap.size W w' → w'.cell? ⟨g, off + y * 14, none⟩ = some (.int .i64 f.cl) ∧ w'.cell? ⟨g, off + y * 14 + 1, none⟩ = some (.int .i64 f.op) ∧ w'.cell? ⟨g, off + y * 14 + 2, none⟩ = some (.int .i64 f.bg) ∧ w'.cell? ⟨g, off + y * 14 + 3, none⟩ = some (.int .i64 f.pt) ∧ w'.cell? ⟨g, off + y * 14 + 4, none⟩ = some (.int .i64 f.en) ∧ w'.cell? ⟨g, off + y * 14 + 5, none⟩ = some (.bool f.bh) ∧ w'.cell? ⟨g, off + y * 14 + 6, none⟩ = some (.int .i64 f.kd) ∧ w'.cell? ⟨g, off + y * 14 + 7, none⟩ = some (.int .i64 f.nn) ∧ w'.cell? ⟨g, off + y * 14 + 8, none⟩ = some (.int .u64 (f.hh : Nat)) ∧ w'.cell? ⟨g, off + y * 14 + 9, none⟩ = some (.int .u64 (f.hx : Nat)) ∧ w'.cell? ⟨g, off + y * 14 + 10, none⟩ = some (.int .u64 (f.hy : Nat)) ∧ w'.cell? ⟨g, off + y * 14 + 11, none⟩ = some (.int .i64 f.er) ∧ w'.cell? ⟨g, off + y * 14 + 12, none⟩ = some (.int .u64 (f.ah : Nat)) ∧ w'.cell? ⟨g, off + y * 14 + 13, none⟩ = some (.bool f.ay) := fun w' b => by
    obtain ⟨g', off', ha, hg', hc⟩ := (hR.below b) y f hf
    simp only [Option.some.injEq, Addr.mk.injEq] at ha
    obtain ⟨rfl, rfl, -⟩ := ha
    exact ⟨hc 0 (by decide), hc 1 (by decide), hc 2 (by decide), hc 3 (by decide), hc 4 (by decide), hc 5 (by decide), hc 6 (by decide), hc 7 (by decide), hc 8 (by decide), hc 9 (by decide), hc 10 (by decide), hc 11 (by decide), hc 12 (by decide), hc 13 (by decide)⟩
  replace k3 := hid1 k3
  replace k4 := hid1 k4
  have hxz : (x : Int) < (n : Int) := by omega
  have hyz : (y : Int) < (n : Int) := by omega
  replace hE := hid1 hE
  clear hR h1 h2 he hf
  go_enter Try.func47, Try.ntmps47
  go_upto_region 1 with fail
  refine region_below (by kernel_rfl) (by kernel_rfl) ?_
  repeat (first | go_big_quiet_skip | (go_big_quiet_want; go_big_quiet_op; first | go_big_quiet_on | (refine ⟨_, fun _ _ => rfl, ?_⟩; go_big_quiet_on) | (refine ⟨.func (.func 37) #[] #[], ?_, ?_⟩; (focus (intro w' hw'; have l := k1.out w' hw'; simp [l, Result.andThen]; done)); go_big_quiet_on) | (refine ⟨.slice (some ⟨g, off, none⟩) n cap, ?_, ?_⟩; (focus (intro w' hw'; have l := k2.out w' hw'; simp [l, Result.andThen]; done)); go_big_quiet_on) | (refine ⟨.agg #[.int .i64 e.cl, .int .i64 e.op, .int .i64 e.bg, .int .i64 e.pt, .int .i64 e.en, .bool e.bh, .int .i64 e.kd, .int .i64 e.nn, .int .u64 (e.hh : Nat), .int .u64 (e.hx : Nat), .int .u64 (e.hy : Nat), .int .i64 e.er, .int .u64 (e.ah : Nat), .bool e.ay], ?_, ?_⟩; (focus (intro w' hw'; obtain ⟨l0, l1, l2, l3, l4, l5, l6, l7, l8, l9, l10, l11, l12, l13⟩ := k3.out w' hw'; simp [l0, l1, l2, l3, l4, l5, l6, l7, l8, l9, l10, l11, l12, l13, Result.andThen]; done)); go_big_quiet_on) | (refine ⟨.agg #[.int .i64 f.cl, .int .i64 f.op, .int .i64 f.bg, .int .i64 f.pt, .int .i64 f.en, .bool f.bh, .int .i64 f.kd, .int .i64 f.nn, .int .u64 (f.hh : Nat), .int .u64 (f.hx : Nat), .int .u64 (f.hy : Nat), .int .i64 f.er, .int .u64 (f.ah : Nat), .bool f.ay], ?_, ?_⟩; (focus (intro w' hw'; obtain ⟨l0, l1, l2, l3, l4, l5, l6, l7, l8, l9, l10, l11, l12, l13⟩ := k4.out w' hw'; simp [l0, l1, l2, l3, l4, l5, l6, l7, l8, l9, l10, l11, l12, l13, Result.andThen]; done)); go_big_quiet_on) | (with_reducible refine ⟨_, (fun w' hw' => (c1.out w').mono fun _ _ ⟨he, hb⟩ => ⟨he, seq_below hw' hb⟩), ?_⟩; go_big_quiet_on)))
  refine wpQuiet_nil ?_
  intro w8 hb8
  go_wp2
  go_ret
  exact ⟨rfl, hb8⟩
set_option maxRecDepth 100000 in
set_option maxHeartbeats 4000000 in
theorem clO_any {W : World} {P1 P2 : Nat} {ad : Option Addr} {n cap : Nat} {E : List Ev} (hE : n = E.length) (h1 : W.cell? ⟨P1, 0, none⟩ = some (.func (.func 35) #[] #[])) (h2 : W.cell? ⟨P2, 0, none⟩ = some (.slice ad n cap)) (hR : RdEv W ad E) (z1 : P1 < W.heap.size) (z2 : P2 < W.heap.size) {x y : Nat} (hx : x < n) (hy : y < n) :
    Calls Try.prog 47 #[.int .i64 (x : Int), .int .i64 (y : Int), .pointer (some ⟨P1, 0, none⟩), .pointer (some ⟨P2, 0, none⟩)] W fun r w' => r = .returned (.int .i64 (opI (E.getD x default) (E.getD y default))) ∧ Below W.heap.size W w' := by
  obtain ⟨e, he⟩ : ∃ e, E[x]? = some e := ⟨_, List.getElem?_eq_getElem (by omega)⟩
  obtain ⟨f, hf⟩ : ∃ f, E[y]? = some f := ⟨_, List.getElem?_eq_getElem (by omega)⟩
  rw [List.getD_eq_getElem?_getD, List.getD_eq_getElem?_getD, he, hf, Option.getD_some, Option.getD_some]
  have c1 := fun (w' : World) => byOp_any e f w'
  obtain ⟨r, hr⟩ : ∃ r, opI e f = r := ⟨_, rfl⟩
  rw [hr] at c1 ⊢
  clear hr
  unfold Ev.row at c1
  replace c1 := hid1 c1
  have k1 := hid1 (fun (w' : World) (b : Below W.heap.size W w') => (b.cell (p := ⟨P1, 0, none⟩) z1).trans h1)
  have k2 := hid1 (fun (w' : World) (b : Below W.heap.size W w') => (b.cell (p := ⟨P2, 0, none⟩) z2).trans h2)
  obtain ⟨g, off, ha, hg, -⟩ := hR x e he
  subst ha
  have k3 : ∀ w', Below W.heap.size W w' → w'.cell? ⟨g, off + x * 14, none⟩ = some (.int .i64 e.cl) ∧ w'.cell? ⟨g, off + x * 14 + 1, none⟩ = some (.int .i64 e.op) ∧ w'.cell? ⟨g, off + x * 14 + 2, none⟩ = some (.int .i64 e.bg) ∧ w'.cell? ⟨g, off + x * 14 + 3, none⟩ = some (.int .i64 e.pt) ∧ w'.cell? ⟨g, off + x * 14 + 4, none⟩ = some (.int .i64 e.en) ∧ w'.cell? ⟨g, off + x * 14 + 5, none⟩ = some (.bool e.bh) ∧ w'.cell? ⟨g, off + x * 14 + 6, none⟩ = some (.int .i64 e.kd) ∧ w'.cell? ⟨g, off + x * 14 + 7, none⟩ = some (.int .i64 e.nn) ∧ w'.cell? ⟨g, off + x * 14 + 8, none⟩ = some (.int .u64 (e.hh : Nat)) ∧ w'.cell? ⟨g, off + x * 14 + 9, none⟩ = some (.int .u64 (e.hx : Nat)) ∧ w'.cell? ⟨g, off + x * 14 + 10, none⟩ = some (.int .u64 (e.hy : Nat)) ∧ w'.cell? ⟨g, off + x * 14 + 11, none⟩ = some (.int .i64 e.er) ∧ w'.cell? ⟨g, off + x * 14 + 12, none⟩ = some (.int .u64 (e.ah : Nat)) ∧ w'.cell? ⟨g, off + x * 14 + 13, none⟩ = some (.bool e.ay) := fun w' b => by
    obtain ⟨g', off', ha, hg', hc⟩ := (hR.below b) x e he
    simp only [Option.some.injEq, Addr.mk.injEq] at ha
    obtain ⟨rfl, rfl, -⟩ := ha
    exact ⟨hc 0 (by decide), hc 1 (by decide), hc 2 (by decide), hc 3 (by decide), hc 4 (by decide), hc 5 (by decide), hc 6 (by decide), hc 7 (by decide), hc 8 (by decide), hc 9 (by decide), hc 10 (by decide), hc 11 (by decide), hc 12 (by decide), hc 13 (by decide)⟩
  have k4 : ∀ w', Below W.heap.size W w' → w'.cell? ⟨g, off + y * 14, none⟩ = some (.int .i64 f.cl) ∧ w'.cell? ⟨g, off + y * 14 + 1, none⟩ = some (.int .i64 f.op) ∧ w'.cell? ⟨g, off + y * 14 + 2, none⟩ = some (.int .i64 f.bg) ∧ w'.cell? ⟨g, off + y * 14 + 3, none⟩ = some (.int .i64 f.pt) ∧ w'.cell? ⟨g, off + y * 14 + 4, none⟩ = some (.int .i64 f.en) ∧ w'.cell? ⟨g, off + y * 14 + 5, none⟩ = some (.bool f.bh) ∧ w'.cell? ⟨g, off + y * 14 + 6, none⟩ = some (.int .i64 f.kd) ∧ w'.cell? ⟨g, off + y * 14 + 7, none⟩ = some (.int .i64 f.nn) ∧ w'.cell? ⟨g, off + y * 14 + 8, none⟩ = some (.int .u64 (f.hh : Nat)) ∧ w'.cell? ⟨g, off + y * 14 + 9, none⟩ = some (.int .u64 (f.hx : Nat)) ∧ w'.cell? ⟨g, off + y * 14 + 10, none⟩ = some (.int .u64 (f.hy : Nat)) ∧ w'.cell? ⟨g, off + y * 14 + 11, none⟩ = some (.int .i64 f.er) ∧ w'.cell? ⟨g, off + y * 14 + 12, none⟩ = some (.int .u64 (f.ah : Nat)) ∧ w'.cell? ⟨g, off + y * 14 + 13, none⟩ = some (.bool f.ay) := fun w' b => by
    obtain ⟨g', off', ha, hg', hc⟩ := (hR.below b) y f hf
    simp only [Option.some.injEq, Addr.mk.injEq] at ha
    obtain ⟨rfl, rfl, -⟩ := ha
    exact ⟨hc 0 (by decide), hc 1 (by decide), hc 2 (by decide), hc 3 (by decide), hc 4 (by decide), hc 5 (by decide), hc 6 (by decide), hc 7 (by decide), hc 8 (by decide), hc 9 (by decide), hc 10 (by decide), hc 11 (by decide), hc 12 (by decide), hc 13 (by decide)⟩
  replace k3 := hid1 k3
  replace k4 := hid1 k4
  have hxz : (x : Int) < (n : Int) := by omega
  have hyz : (y : Int) < (n : Int) := by omega
  replace hE := hid1 hE
  clear hR h1 h2 he hf
  go_enter Try.func47, Try.ntmps47
  go_upto_region 1 with fail
  refine region_below (by kernel_rfl) (by kernel_rfl) ?_
  repeat (first | go_big_quiet_skip | (go_big_quiet_want; go_big_quiet_op; first | go_big_quiet_on | (refine ⟨_, fun _ _ => rfl, ?_⟩; go_big_quiet_on) | (refine ⟨.func (.func 35) #[] #[], ?_, ?_⟩; (focus (intro w' hw'; have l := k1.out w' hw'; simp [l, Result.andThen]; done)); go_big_quiet_on) | (refine ⟨.slice (some ⟨g, off, none⟩) n cap, ?_, ?_⟩; (focus (intro w' hw'; have l := k2.out w' hw'; simp [l, Result.andThen]; done)); go_big_quiet_on) | (refine ⟨.agg #[.int .i64 e.cl, .int .i64 e.op, .int .i64 e.bg, .int .i64 e.pt, .int .i64 e.en, .bool e.bh, .int .i64 e.kd, .int .i64 e.nn, .int .u64 (e.hh : Nat), .int .u64 (e.hx : Nat), .int .u64 (e.hy : Nat), .int .i64 e.er, .int .u64 (e.ah : Nat), .bool e.ay], ?_, ?_⟩; (focus (intro w' hw'; obtain ⟨l0, l1, l2, l3, l4, l5, l6, l7, l8, l9, l10, l11, l12, l13⟩ := k3.out w' hw'; simp [l0, l1, l2, l3, l4, l5, l6, l7, l8, l9, l10, l11, l12, l13, Result.andThen]; done)); go_big_quiet_on) | (refine ⟨.agg #[.int .i64 f.cl, .int .i64 f.op, .int .i64 f.bg, .int .i64 f.pt, .int .i64 f.en, .bool f.bh, .int .i64 f.kd, .int .i64 f.nn, .int .u64 (f.hh : Nat), .int .u64 (f.hx : Nat), .int .u64 (f.hy : Nat), .int .i64 f.er, .int .u64 (f.ah : Nat), .bool f.ay], ?_, ?_⟩; (focus (intro w' hw'; obtain ⟨l0, l1, l2, l3, l4, l5, l6, l7, l8, l9, l10, l11, l12, l13⟩ := k4.out w' hw'; simp [l0, l1, l2, l3, l4, l5, l6, l7, l8, l9, l10, l11, l12, l13, Result.andThen]; done)); go_big_quiet_on) | (with_reducible refine ⟨_, (fun w' hw' => (c1.out w').mono fun _ _ ⟨he, hb⟩ => ⟨he, seq_below hw' hb⟩), ?_⟩; go_big_quiet_on)))
  refine wpQuiet_nil ?_
  intro w8 hb8
  go_wp2
  go_ret
  exact ⟨rfl, hb8⟩
end Go.Proofs.Ytecppcakgfohbab
