/- Contracts of package sweep's Reclaim, wherever it lies in a block. -/
import Derived.Test.YteechgmjaagbmabDoorBSw
import Derived.Test.YteechgmjaagbmabDoorAB
namespace Go.Proofs.YteechgmjaagbmabDoor
open Go.RowKit
open Mm (IsMem MS touched Only IsWords)
open Hh (WT wordOf okW Hr)

theorem HdZ.got0 {w wr : World} {M G P R : Nat} (hz : HdZ w wr M G P R) (k m : Int) (g : Bool) (a n s : Int) : ((((((wr.setCell ⟨R, 0, none⟩ (.int .i64 k)).setCell ⟨R, 1, none⟩ (.int .i64 m)).setCell ⟨R, 2, none⟩ (.bool g)).setCell ⟨R, 3, none⟩ (.int .i64 a)).setCell ⟨R, 4, none⟩ (.int .i64 n)).setCell ⟨R, 5, none⟩ (.int .i64 s)).cell? ⟨R, 0, none⟩ = some (.int .i64 k) := by
  have h1 := Mm.heap_setCell_at (o := 0) hz.hd (.int .i64 k)
  have h2 := Mm.heap_setCell_at (o := 1) h1 (.int .i64 m)
  have h3 := Mm.heap_setCell_at (o := 2) h2 (.bool g)
  have h4 := Mm.heap_setCell_at (o := 3) h3 (.int .i64 a)
  have h5 := Mm.heap_setCell_at (o := 4) h4 (.int .i64 n)
  have h6 := Mm.heap_setCell_at (o := 5) h5 (.int .i64 s)
  unfold World.cell?
  simp only [h6]
  rfl

/-- Cells of the kinds that a Free's are. -/
structure FrTy (c : Array Value) (o : Nat) (z0 z1 : Bool) (z2 z3 z4 z5 z6 z7 z8 z9 z10 z11 z12 z13 z14 : Int) : Prop where
  c0 : c[o]? = some (.bool z0)
  c1 : c[o + 1]? = some (.bool z1)
  c2 : c[o + 2]? = some (.int .i64 z2)
  c3 : c[o + 3]? = some (.int .i64 z3)
  c4 : c[o + 4]? = some (.int .i64 z4)
  c5 : c[o + 5]? = some (.int .i64 z5)
  c6 : c[o + 6]? = some (.int .i64 z6)
  c7 : c[o + 7]? = some (.int .i64 z7)
  c8 : c[o + 8]? = some (.int .i64 z8)
  c9 : c[o + 9]? = some (.int .i64 z9)
  c10 : c[o + 10]? = some (.int .i64 z10)
  c11 : c[o + 11]? = some (.int .i64 z11)
  c12 : c[o + 12]? = some (.int .u64 z12)
  c13 : c[o + 13]? = some (.int .i64 z13)
  c14 : c[o + 14]? = some (.int .u64 z14)
def FrTys (c : Array Value) (o : Nat) : Prop := ∃ z0 z1 z2 z3 z4 z5 z6 z7 z8 z9 z10 z11 z12 z13 z14, FrTy c o z0 z1 z2 z3 z4 z5 z6 z7 z8 z9 z10 z11 z12 z13 z14
theorem FrTys.same {c c' : Array Value} {o a b : Nat} (h : FrTys c o) (s : Same c c' a b) (hab : b < o ∨ o + 14 < a) : FrTys c' o := by
  obtain ⟨z0, z1, z2, z3, z4, z5, z6, z7, z8, z9, z10, z11, z12, z13, z14, h⟩ := h
  exact ⟨z0, z1, z2, z3, z4, z5, z6, z7, z8, z9, z10, z11, z12, z13, z14, (s.out _ (by omega)).trans h.c0, (s.out _ (by omega)).trans h.c1, (s.out _ (by omega)).trans h.c2, (s.out _ (by omega)).trans h.c3, (s.out _ (by omega)).trans h.c4, (s.out _ (by omega)).trans h.c5, (s.out _ (by omega)).trans h.c6, (s.out _ (by omega)).trans h.c7, (s.out _ (by omega)).trans h.c8, (s.out _ (by omega)).trans h.c9, (s.out _ (by omega)).trans h.c10, (s.out _ (by omega)).trans h.c11, (s.out _ (by omega)).trans h.c12, (s.out _ (by omega)).trans h.c13, (s.out _ (by omega)).trans h.c14⟩
theorem FrTys.lt {c : Array Value} {o : Nat} (h : FrTys c o) : o + 14 < c.size := by
  obtain ⟨z0, z1, z2, z3, z4, z5, z6, z7, z8, z9, z10, z11, z12, z13, z14, h⟩ := h
  exact lt_get h.c14
theorem FrAt.tys {c : Array Value} {o : Nat} {K : Cf} {f : Fr} (h : FrAt c o K f) : FrTys c o :=
  ⟨_, _, _, _, _, _, _, _, _, _, _, _, _, _, _, h.back, h.gone, h.hd, h.g, h.q.k0, h.q.k1, h.q.k2, h.q.k3, h.q.k4, h.q.k5, h.q.sl, h.q.pc, h.q.tp, h.pc, h.fd⟩
theorem FrAt.same {c c' : Array Value} {o a b : Nat} {K : Cf} {f : Fr} (h : FrAt c o K f) (s : Same c c' a b) (hab : b < o ∨ o + 14 < a) : FrAt c' o K f :=
  ⟨(s.out _ (by omega)).trans h.back, (s.out _ (by omega)).trans h.gone, (s.out _ (by omega)).trans h.hd, (s.out _ (by omega)).trans h.g, h.q.same s (by omega), (s.out _ (by omega)).trans h.pc, (s.out _ (by omega)).trans h.fd⟩

/-- What a Reclaim holds. -/
structure Re where
  back : Nat
  gone : Nat
  pc : Nat
  sl : Nat
  f : Fr
structure ReAt (c : Array Value) (o : Nat) (K : Cf) (r : Re) : Prop where
  back : c[o]? = some (.int .i64 (r.back : Nat))
  gone : c[o + 1]? = some (.int .i64 (r.gone : Nat))
  k0 : c[o + 2]? = some (.int .i64 (K.S : Nat))
  k1 : c[o + 3]? = some (.int .i64 K.a)
  k2 : c[o + 4]? = some (.int .i64 (K.C : Nat))
  k3 : c[o + 5]? = some (.int .i64 (K.D : Nat))
  k4 : c[o + 6]? = some (.int .i64 K.g)
  k5 : c[o + 7]? = some (.int .i64 K.k)
  pc : c[o + 8]? = some (.int .i64 (r.pc : Nat))
  sl : c[o + 9]? = some (.int .i64 (r.sl : Nat))
  ty : FrTys c (o + 10)
  f : r.pc = 1 → FrAt c (o + 10) K r.f
theorem ReAt.size {c : Array Value} {o : Nat} {K : Cf} {r : Re} (h : ReAt c o K r) : o + 24 < c.size := by have := h.ty.lt; omega
theorem ReAt.put_back {c : Array Value} {o : Nat} {K : Cf} {r : Re} (h : ReAt c o K r) (v : Nat) : ReAt (c.setIfInBounds (o) (.int .i64 (v : Nat))) o K { r with back := v } := by
  have := h.size
  exact ⟨get_set (by omega), (get_set_ne (by omega)).trans h.gone, (get_set_ne (by omega)).trans h.k0, (get_set_ne (by omega)).trans h.k1, (get_set_ne (by omega)).trans h.k2, (get_set_ne (by omega)).trans h.k3, (get_set_ne (by omega)).trans h.k4, (get_set_ne (by omega)).trans h.k5, (get_set_ne (by omega)).trans h.pc, (get_set_ne (by omega)).trans h.sl, h.ty.same (Same.set c (a := o) (b := o) _ (by omega)) (by omega), fun e => (h.f e).same (Same.set c (a := o) (b := o) _ (by omega)) (by omega)⟩
theorem ReAt.put_gone {c : Array Value} {o : Nat} {K : Cf} {r : Re} (h : ReAt c o K r) (v : Nat) : ReAt (c.setIfInBounds (o + 1) (.int .i64 (v : Nat))) o K { r with gone := v } := by
  have := h.size
  exact ⟨(get_set_ne (by omega)).trans h.back, get_set (by omega), (get_set_ne (by omega)).trans h.k0, (get_set_ne (by omega)).trans h.k1, (get_set_ne (by omega)).trans h.k2, (get_set_ne (by omega)).trans h.k3, (get_set_ne (by omega)).trans h.k4, (get_set_ne (by omega)).trans h.k5, (get_set_ne (by omega)).trans h.pc, (get_set_ne (by omega)).trans h.sl, h.ty.same (Same.set c (a := o + 1) (b := o + 1) _ (by omega)) (by omega), fun e => (h.f e).same (Same.set c (a := o + 1) (b := o + 1) _ (by omega)) (by omega)⟩
theorem ReAt.put_pc {c : Array Value} {o : Nat} {K : Cf} {r : Re} (h : ReAt c o K r) (v : Nat) (hf : v = 1 → FrAt (c.setIfInBounds (o + 8) (.int .i64 (v : Nat))) (o + 10) K r.f) : ReAt (c.setIfInBounds (o + 8) (.int .i64 (v : Nat))) o K { r with pc := v } := by
  have := h.size
  exact ⟨(get_set_ne (by omega)).trans h.back, (get_set_ne (by omega)).trans h.gone, (get_set_ne (by omega)).trans h.k0, (get_set_ne (by omega)).trans h.k1, (get_set_ne (by omega)).trans h.k2, (get_set_ne (by omega)).trans h.k3, (get_set_ne (by omega)).trans h.k4, (get_set_ne (by omega)).trans h.k5, get_set (by omega), (get_set_ne (by omega)).trans h.sl, h.ty.same (Same.set c (a := o + 8) (b := o + 8) _ (by omega)) (by omega), hf⟩
theorem ReAt.put_sl {c : Array Value} {o : Nat} {K : Cf} {r : Re} (h : ReAt c o K r) (v : Nat) : ReAt (c.setIfInBounds (o + 9) (.int .i64 (v : Nat))) o K { r with sl := v } := by
  have := h.size
  exact ⟨(get_set_ne (by omega)).trans h.back, (get_set_ne (by omega)).trans h.gone, (get_set_ne (by omega)).trans h.k0, (get_set_ne (by omega)).trans h.k1, (get_set_ne (by omega)).trans h.k2, (get_set_ne (by omega)).trans h.k3, (get_set_ne (by omega)).trans h.k4, (get_set_ne (by omega)).trans h.k5, (get_set_ne (by omega)).trans h.pc, get_set (by omega), h.ty.same (Same.set c (a := o + 9) (b := o + 9) _ (by omega)) (by omega), fun e => (h.f e).same (Same.set c (a := o + 9) (b := o + 9) _ (by omega)) (by omega)⟩

/-- The next slot. -/
def reNext (K : Cf) (r : Re) : Re := { r with sl := r.sl + 1, pc := if K.S ≤ r.sl + 1 then 2 else 0 }
def fr0 (s : Nat) : Fr := ⟨false, false, ⟨s, 0, 0⟩, 0, 0⟩
/-- A Reclaim's step on the words. -/
def reX (K : Cf) (X : List Nat) (r : Re) : List Nat × Re :=
  if r.pc = 0 then (X, if kdW (X.getD (K.hd r.sl) 0) = 3 then { r with f := fr0 r.sl, pc := 1 } else reNext K r)
  else if r.pc = 1 then ((frX K X r.f).1, if (frX K X r.f).2.pc = 3 then reNext K { r with f := (frX K X r.f).2, back := r.back + (frX K X r.f).2.back.toNat, gone := r.gone + (frX K X r.f).2.gone.toNat } else { r with f := (frX K X r.f).2 })
  else (X, r)

theorem ReAt.rd {w wr : World} {M G N P : Nat} {X : List Nat} {T : Int} {c : Array Value} {t : TypeId} {o : Nat} {K : Cf} {r : Re} (h : ReAt c o K r) (is : InA w wr M G N X T P c t) :
    wr.cell? ⟨P, o + 2, none⟩ = some (.int .i64 (K.S : Nat)) ∧ wr.cell? ⟨P, o + 2 + 1, none⟩ = some (.int .i64 K.a) ∧ wr.cell? ⟨P, o + 2 + 2, none⟩ = some (.int .i64 (K.C : Nat)) ∧ wr.cell? ⟨P, o + 2 + 3, none⟩ = some (.int .i64 (K.D : Nat)) ∧ wr.cell? ⟨P, o + 2 + 4, none⟩ = some (.int .i64 K.g) ∧ wr.cell? ⟨P, o + 2 + 5, none⟩ = some (.int .i64 K.k) ∧ wr.cell? ⟨P, o + 9, none⟩ = some (.int .i64 (r.sl : Nat)) :=
  ⟨is.cell h.k0, is.cell h.k1, is.cell h.k2, is.cell h.k3, is.cell h.k4, is.cell h.k5, is.cell h.sl⟩

set_option maxHeartbeats 2000000 in
theorem rnext_as {w : World} {M G N P o : Nat} {X : List Nat} {T : Int} {c : Array Value} {t : TypeId} {K : Cf} {s : Re} (is : InA w w M G N X T P c t) (hs : ReAt c o K s) (hl : s.sl < 64) :
    Calls Tryd.prog 52 #[.pointer (some ⟨P, o, none⟩)] w fun r w' => r = .returned (.tuple #[]) ∧ ∃ c', InA w w' M G N X T P c' t ∧ ReAt c' o K (reNext K s) ∧ Same c c' o (o + 24) := by
  have n1 := hs.put_sl (s.sl + 1)
  have n2 := n1.put_pc 0 (fun h => by omega)
  have n3 := n2.put_pc 2 (fun h => by omega)
  have hz : ∀ wr c', InA w wr M G N X T P c' t → ReAt c' o K { s with sl := s.sl + 1, pc := 0 } → wr.cell? ⟨P, o + 2, none⟩ = some (.int .i64 (K.S : Nat)) ∧ wr.cell? ⟨P, o + 9, none⟩ = some (.int .i64 ((s.sl + 1 : Nat) : Int)) := fun wr c' x y => ⟨x.cell y.k0, x.cell y.sl⟩
  obtain ⟨fz, hfz⟩ : ∃ fz, reNext K s = fz := ⟨_, rfl⟩
  rw [hfz]
  obtain ⟨back, gone, pc, sl, f⟩ := s
  unfold reNext at hfz
  simp only at *
  have l9 := is.cell hs.sl
  have f9 := is.free (o + 9)
  simp only at l9
  have e1 : IntKind.i64.wrap ((sl : Int) + 1) = ((sl + 1 : Nat) : Int) := by rw [IntKind.wrap_i64]; omega
  replace is := is.set (o + 9) (.int .i64 ((sl + 1 : Nat) : Int))
  clear hs
  generalize hsl : sl + 1 = s1 at *
  go_enter Tryd.func52, Tryd.ntmps52
  go_upto_region 1 with fail
  clear l9 f9 e1
  generalize w.setCell ⟨P, o + 9, none⟩ (.int .i64 (s1 : Nat)) = w2 at *
  have l8 := is.cell n1.pc
  have f8 := is.free (o + 8)
  replace is := is.set (o + 8) (.int .i64 0)
  go_upto_region 2 with fail
  clear l8 f8
  generalize w2.setCell ⟨P, o + 8, none⟩ (.int .i64 0) = w3 at *
  obtain ⟨q1, q9⟩ := hz _ _ is n2
  have s3 : Same c ((c.setIfInBounds (o + 9) (.int .i64 (s1 : Nat))).setIfInBounds (o + 8) (.int .i64 0)) o (o + 24) := (Same.set _ _ (by omega)).trans (Same.set _ _ (by omega))
  clear hz
  by_cases hc : K.S ≤ s1
  · obtain rfl : fz = ⟨back, gone, 2, s1, f⟩ := by rw [← hfz, if_pos hc]
    have hc1 : (K.S : Int) ≤ (s1 : Int) := by omega
    have hc2 : decide ((K.S : Int) ≤ (s1 : Int)) = true := decide_eq_true hc1
    clear hc hl hsl hfz
    go_quiet (fail)
    replace is := is.below (below_drewN (Below.refl _ w3) nq)
    clear q1 q9
    generalize w3.drewN nq = w4 at *
    have l8 := is.cell n2.pc
    have f8 := is.free (o + 8)
    replace is := is.set (o + 8) (.int .i64 2)
    go_wp2
    go_end0
    exact ⟨rfl, _, is, n3, s3.trans (Same.set _ _ (by omega))⟩
  · obtain rfl : fz = ⟨back, gone, 0, s1, f⟩ := by rw [← hfz, if_neg hc]
    have hc1 : ¬ (K.S : Int) ≤ (s1 : Int) := by omega
    have hc2 : decide ((K.S : Int) ≤ (s1 : Int)) = false := decide_eq_false hc1
    clear hc hl hsl hfz
    go_quiet (fail)
    replace is := is.below (below_drewN (Below.refl _ w3) nq)
    clear q1 q9
    generalize w3.drewN nq = w4 at *
    go_wp2
    go_end0
    exact ⟨rfl, _, is, n2, s3⟩

set_option maxRecDepth 100000 in
set_option maxHeartbeats 8000000 in
theorem rload_not {w : World} {M G N P o : Nat} {X : List Nat} {T : Int} {c : Array Value} {t : TypeId} {K : Cf} {m : Re} (is : InA w w M G N X T P c t) (hm : ReAt c o K m) (hT : T + 1 < 4611686018427387904) {L s : Nat} (hL : L < N) (hs : m.sl = s) (hl : s < 64) (hk : ¬ kdW (X.getD L 0) = 3)
    (c1 : ∀ w, Calls Tryd.prog 47 #[.agg (cs K.S K.a K.C K.D K.g K.k), .int .i64 (s : Nat)] w fun e w' => e = .returned (.int .i64 (L : Nat)) ∧ Below w.heap.size w w') :
    Calls Tryd.prog 40 #[.pointer (some ⟨P, o, none⟩), .pointer (some ⟨M, 0, none⟩)] w fun r w' => r = .returned (.tuple #[]) ∧ ∃ c', InA w w' M G N X (T + 1) P c' t ∧ ReAt c' o K (reNext K m) ∧ Same c c' o (o + 24) := by
  have htb := is.tb
  have hlen := is.len
  obtain ⟨v, hv⟩ : ∃ v, X.getD L 0 = v := ⟨_, rfl⟩
  have hv64 := is.mem.fits L
  rw [hv] at hv64 hk
  have c0 : ∀ wr, InA w wr M G N X T P c t → Calls Tryd.prog 46 #[.pointer (some ⟨M, 0, none⟩), .int .i64 (L : Nat)] wr fun e w' => e = .returned (.int .u64 (v : Nat)) ∧ InA w w' M G N X (T + 1) P c t ∧ Only M G wr w' := fun wr x =>
    (loadX x.mem (by rw [hlen]; exact hL) htb hv).mono fun e w' ⟨h1, h2, h3⟩ => ⟨h1, x.only h2 h3 hlen (by omega), h3⟩
  obtain ⟨m', g', a', n', s', z', c3⟩ := unpack_kind v hv64
  have hrc : ∀ wr X T, InA w wr M G N X T P c t → _ := fun wr X T x => hm.rd x
  rw [hs] at hrc
  have hn5 : ∀ wr T, InA w wr M G N X T P c t → Calls Tryd.prog 52 #[.pointer (some ⟨P, o, none⟩)] wr fun r w' => r = .returned (.tuple #[]) ∧ ∃ c'', InA w w' M G N X T P c'' t ∧ ReAt c'' o K (reNext K m) ∧ Same c c'' o (o + 24) := fun wr T x =>
    (rnext_as x.restart hm (by omega)).mono fun r w' ⟨h1, c'', h2, h3, h4⟩ => ⟨h1, c'', x.join h2, h3, h4⟩
  have HC : Hid (∀ wr X T, InA w wr M G N X T P c t → _) := hrc
  have HN : Hid (∀ wr T, InA w wr M G N X T P c t → _) := hn5
  have hPl := lt_of_block is.blk
  have hML := is.mem.lt
  clear hL hs hm hv hv64 hrc hn5 hl
  generalize kdW v = kd at *
  unfold cs at *
  go_enter Tryd.func40, Tryd.ntmps40
  go_upto_region 0 with fail
  have is0 := is
  have hws : Hid (0 < w.heap.size) := show 0 < w.heap.size by omega
  replace is := is.drew
  have hS0 := HC.out _ _ _ is
  refine wp_region_held_drew (S := fun wr => wr.cell? ⟨P, o + 2, none⟩ = some (.int .i64 (K.S : Nat)) ∧ wr.cell? ⟨P, o + 2 + 1, none⟩ = some (.int .i64 K.a) ∧ wr.cell? ⟨P, o + 2 + 2, none⟩ = some (.int .i64 (K.C : Nat)) ∧ wr.cell? ⟨P, o + 2 + 3, none⟩ = some (.int .i64 (K.D : Nat)) ∧ wr.cell? ⟨P, o + 2 + 4, none⟩ = some (.int .i64 K.g) ∧ wr.cell? ⟨P, o + 2 + 5, none⟩ = some (.int .i64 K.k) ∧ wr.cell? ⟨P, o + 9, none⟩ = some (.int .i64 (s : Nat))) (by kernel_rfl) hS0 (fun hS1 => ?_)
  clear hS0
  refine wpAnyH_take (i := 0) (oi := { dst := some 7, op := Go.Op.move (Go.Operand.tmp 1), type := 30, pos := "sweep.go:118", after := #[], guard := none }) (v := .pointer (some ⟨M, 0, none⟩)) rfl (by kernel_rfl) (by kernel_rfl) (by kernel_rfl) (fun _ _ _ h => h) (Or.inl ⟨by rfl, fun w hSw => by (try dsimp only at hSw); go_simp⟩) hS1 ?_
  simp only [Act.put, List.setIfInBounds_toArray, List.set_cons_zero, List.set_cons_succ]
  refine wpAnyH_take (i := 1) (oi := { dst := some 8, op := Go.Op.move (Go.Operand.tmp 0), type := 52, pos := "sweep.go:118", after := #[], guard := none }) (v := .pointer (some ⟨P, o, none⟩)) rfl (by kernel_rfl) (by kernel_rfl) (by kernel_rfl) (fun _ _ _ h => h) (Or.inl ⟨by rfl, fun w hSw => by (try dsimp only at hSw); go_simp⟩) hS1 ?_
  simp only [Act.put, List.setIfInBounds_toArray, List.set_cons_zero, List.set_cons_succ]
  refine wpAnyH_take (i := 2) (oi := { dst := some 9, op := Go.Op.nilCheck (Go.Operand.tmp 8), type := 0, pos := "sweep.go:118", after := #[{ on := 1, ground := Go.Ground.data }], guard := none }) (v := .pointer (some ⟨P, o, none⟩)) rfl (by kernel_rfl) (by kernel_rfl) (by kernel_rfl) (fun _ _ _ h => h) (Or.inl ⟨by rfl, fun w hSw => by (try dsimp only at hSw); go_simp⟩) hS1 ?_
  simp only [Act.put, List.setIfInBounds_toArray, List.set_cons_zero, List.set_cons_succ]
  refine wpAnyH_take (i := 3) (oi := { dst := some 10, op := Go.Op.fieldAddr 63 (Go.Operand.tmp 9) 2, type := 0, pos := "sweep.go:118", after := #[{ on := 2, ground := Go.Ground.data }], guard := none }) (v := .pointer (some ⟨P, o + 2, none⟩)) rfl (by kernel_rfl) (by kernel_rfl) (by kernel_rfl) (fun _ _ _ h => h) (Or.inl ⟨by rfl, fun w hSw => by (try dsimp only at hSw); go_simp⟩) hS1 ?_
  simp only [Act.put, List.setIfInBounds_toArray, List.set_cons_zero, List.set_cons_succ]
  refine wpAnyH_take (i := 4) (oi := { dst := some 11, op := Go.Op.load 23 (Go.Operand.tmp 10), type := 23, pos := "sweep.go:118", after := #[{ on := 3, ground := Go.Ground.data }], guard := none }) (v := .agg #[.int .i64 (K.S : Nat), .int .i64 K.a, .int .i64 (K.C : Nat), .int .i64 (K.D : Nat), .int .i64 K.g, .int .i64 K.k]) rfl (by kernel_rfl) (by kernel_rfl) (by kernel_rfl) (fun _ _ _ h => h) (Or.inl ⟨by rfl, fun w hSw => by (try dsimp only at hSw); go_simp⟩) hS1 ?_
  simp only [Act.put, List.setIfInBounds_toArray, List.set_cons_zero, List.set_cons_succ]
  refine wpAnyH_take (i := 5) (oi := { dst := some 12, op := Go.Op.move (Go.Operand.tmp 0), type := 52, pos := "sweep.go:118", after := #[], guard := none }) (v := .pointer (some ⟨P, o, none⟩)) rfl (by kernel_rfl) (by kernel_rfl) (by kernel_rfl) (fun _ _ _ h => h) (Or.inl ⟨by rfl, fun w hSw => by (try dsimp only at hSw); go_simp⟩) hS1 ?_
  simp only [Act.put, List.setIfInBounds_toArray, List.set_cons_zero, List.set_cons_succ]
  refine wpAnyH_take (i := 6) (oi := { dst := some 13, op := Go.Op.nilCheck (Go.Operand.tmp 12), type := 0, pos := "sweep.go:118", after := #[{ on := 5, ground := Go.Ground.data }], guard := none }) (v := .pointer (some ⟨P, o, none⟩)) rfl (by kernel_rfl) (by kernel_rfl) (by kernel_rfl) (fun _ _ _ h => h) (Or.inl ⟨by rfl, fun w hSw => by (try dsimp only at hSw); go_simp⟩) hS1 ?_
  simp only [Act.put, List.setIfInBounds_toArray, List.set_cons_zero, List.set_cons_succ]
  refine wpAnyH_take (i := 7) (oi := { dst := some 14, op := Go.Op.fieldAddr 63 (Go.Operand.tmp 13) 4, type := 0, pos := "sweep.go:118", after := #[{ on := 6, ground := Go.Ground.data }], guard := none }) (v := .pointer (some ⟨P, o + 9, none⟩)) rfl (by kernel_rfl) (by kernel_rfl) (by kernel_rfl) (fun _ _ _ h => h) (Or.inl ⟨by rfl, fun w hSw => by (try dsimp only at hSw); go_simp⟩) hS1 ?_
  simp only [Act.put, List.setIfInBounds_toArray, List.set_cons_zero, List.set_cons_succ]
  refine wpAnyH_take (i := 8) (oi := { dst := some 15, op := Go.Op.load 3 (Go.Operand.tmp 14), type := 3, pos := "sweep.go:118", after := #[{ on := 7, ground := Go.Ground.data }], guard := none }) (v := .int .i64 (s : Nat)) rfl (by kernel_rfl) (by kernel_rfl) (by kernel_rfl) (fun _ _ _ h => h) (Or.inl ⟨by rfl, fun w hSw => by (try dsimp only at hSw); go_simp⟩) hS1 ?_
  simp only [Act.put, List.setIfInBounds_toArray, List.set_cons_zero, List.set_cons_succ]
  refine wpAnyH_ready (rs := [9, 15]) (by kernel_rfl) (by simp) (AllReadyH.cons (o := { dst := some 16, op := Go.Op.call { callee := Go.Callee.value (Go.Operand.func 47), args := #[Go.Operand.tmp 11, Go.Operand.tmp 15], argTypes := #[23, 3] }, type := 3, pos := "sweep.go:118", after := #[{ on := 4, ground := Go.Ground.data }, { on := 8, ground := Go.Ground.data }], guard := none }) rfl (fun K hK => ?_) (AllReadyH.cons (o := { dst := some 4, op := Go.Op.alloc 43, type := 0, pos := "sweep.go:118", after := #[], guard := none }) rfl (fun K hK => ?_) AllReadyH.nil))
  · go_simp
    go_at_call 47
    with_reducible refine (c1 _).mono ?_
    rintro e w4 ⟨rfl, b⟩
    (try simp only [])
    replace is := is.below b
    clear b
    refine hK.out _ _ (HC.out _ _ _ is) (fun hS1 => ?_)
    (try simp only [Act.put, List.setIfInBounds_toArray, List.set_cons_zero, List.set_cons_succ])
    clear hK K
    refine wpAnyH_ready (rs := [10, 15]) (by kernel_rfl) (by simp) (AllReadyH.cons (o := { dst := some 17, op := Go.Op.call { callee := Go.Callee.value (Go.Operand.func 46), args := #[Go.Operand.tmp 7, Go.Operand.tmp 16], argTypes := #[30, 3] }, type := 25, pos := "sweep.go:118", after := #[{ on := 0, ground := Go.Ground.data }, { on := 9, ground := Go.Ground.data }, { on := 9, ground := Go.Ground.chain }], guard := none }) rfl (fun K hK => ?_) (AllReadyH.cons (o := { dst := some 4, op := Go.Op.alloc 43, type := 0, pos := "sweep.go:118", after := #[], guard := none }) rfl (fun K hK => ?_) AllReadyH.nil))
    · go_simp
      go_at_call 46
      with_reducible refine (c0 _ is).mono ?_
      rintro e w5 ⟨rfl, i1, ho⟩
      (try simp only [])
      clear is
      have is := i1
      clear i1
      clear ho
      refine hK.out _ _ (HC.out _ _ _ is) (fun hS1 => ?_)
      (try simp only [Act.put, List.setIfInBounds_toArray, List.set_cons_zero, List.set_cons_succ])
      clear hK K
      refine wpAnyH_ready (rs := [11, 15]) (by kernel_rfl) (by simp) (AllReadyH.cons (o := { dst := some 18, op := Go.Op.call { callee := Go.Callee.value (Go.Operand.func 51), args := #[Go.Operand.tmp 17], argTypes := #[25] }, type := 44, pos := "sweep.go:118", after := #[{ on := 10, ground := Go.Ground.data }, { on := 10, ground := Go.Ground.chain }], guard := none }) rfl (fun K hK => ?_) (AllReadyH.cons (o := { dst := some 4, op := Go.Op.alloc 43, type := 0, pos := "sweep.go:118", after := #[], guard := none }) rfl (fun K hK => ?_) AllReadyH.nil))
      · go_simp
        go_at_call 51
        with_reducible refine (c3 _ is.wt).mono ?_
        rintro e w6 ⟨rfl, b⟩
        (try simp only [])
        replace is := is.below b
        clear b
        refine hK.out _ _ (HC.out _ _ _ is) (fun hS1 => ?_)
        (try simp only [Act.put, List.setIfInBounds_toArray, List.set_cons_zero, List.set_cons_succ])
        clear hK K
        refine wpAnyH_take (i := 12) (oi := { dst := some 6, op := Go.Op.move (Go.Operand.tmp 18), type := 44, pos := "sweep.go:118", after := #[{ on := 11, ground := Go.Ground.data }], guard := none }) (v := .tuple #[.agg #[.int .i64 (kd : Nat), .int .i64 m', .bool g', .int .i64 a', .int .i64 n', .int .i64 s'], .bool z']) rfl (by kernel_rfl) (by kernel_rfl) (by kernel_rfl) (fun _ _ _ h => h) (Or.inl ⟨by rfl, fun w hSw => by (try dsimp only at hSw); go_simp⟩) hS1 ?_
        simp only [Act.put, List.setIfInBounds_toArray, List.set_cons_zero, List.set_cons_succ]
        refine wpAnyH_take (i := 13) (oi := { dst := some 19, op := Go.Op.extract (Go.Operand.tmp 6) 0, type := 43, pos := "sweep.go:118", after := #[{ on := 12, ground := Go.Ground.data }], guard := none }) (v := .agg #[.int .i64 (kd : Nat), .int .i64 m', .bool g', .int .i64 a', .int .i64 n', .int .i64 s']) rfl (by kernel_rfl) (by kernel_rfl) (by kernel_rfl) (fun _ _ _ h => h) (Or.inl ⟨by rfl, fun w hSw => by (try dsimp only at hSw); go_simp⟩) hS1 ?_
        simp only [Act.put, List.setIfInBounds_toArray, List.set_cons_zero, List.set_cons_succ]
        refine wpAnyH_take (i := 14) (oi := { dst := some 20, op := Go.Op.extract (Go.Operand.tmp 6) 1, type := 4, pos := "sweep.go:118", after := #[{ on := 12, ground := Go.Ground.data }, { on := 16, ground := Go.Ground.gcOnly Go.Departure.lateStores }], guard := none }) (v := .bool z') rfl (by kernel_rfl) (by kernel_rfl) (by kernel_rfl) (fun _ _ _ h => h) (Or.inl ⟨by rfl, fun w hSw => by (try dsimp only at hSw); go_simp⟩) hS1 ?_
        simp only [Act.put, List.setIfInBounds_toArray, List.set_cons_zero, List.set_cons_succ]
        refine wpAnyH_ready (rs := [15]) (by kernel_rfl) (by simp) (AllReadyH.cons (o := { dst := some 4, op := Go.Op.alloc 43, type := 0, pos := "sweep.go:118", after := #[], guard := none }) rfl (fun K hK => ?_) AllReadyH.nil)
        go_simp
        have hz : Hid _ := HdZ.ofNew is
        replace is := is.below (alloc_below _ (.cells #[.int .i64 0, .int .i64 0, .bool false, .int .i64 0, .int .i64 0, .int .i64 0] 43))
        refine hK.out _ _ (HC.out _ _ _ is) (fun hS1 => ?_)
        (try simp only [Act.put, List.setIfInBounds_toArray, List.set_cons_zero, List.set_cons_succ])
        clear hK K
        generalize w6.heap.size = R at hz ⊢
        generalize w6.alloc (.cells #[.int .i64 0, .int .i64 0, .bool false, .int .i64 0, .int .i64 0, .int .i64 0] 43) = wA at *
        refine wpAnyH_ready (rs := [16]) (by kernel_rfl) (by simp) (AllReadyH.cons (o := { dst := none, op := Go.Op.store 43 (Go.Operand.tmp 4) (Go.Operand.tmp 19), type := 0, pos := "sweep.go:118", after := #[{ on := 15, ground := Go.Ground.data }, { on := 13, ground := Go.Ground.data }, { on := 11, ground := Go.Ground.chain }, { on := 0, ground := Go.Ground.phase }, { on := 1, ground := Go.Ground.phase }, { on := 2, ground := Go.Ground.phase }, { on := 3, ground := Go.Ground.phase }, { on := 4, ground := Go.Ground.phase }, { on := 5, ground := Go.Ground.phase }, { on := 6, ground := Go.Ground.phase }, { on := 7, ground := Go.Ground.phase }, { on := 8, ground := Go.Ground.phase }, { on := 9, ground := Go.Ground.phase }, { on := 10, ground := Go.Ground.phase }, { on := 11, ground := Go.Ground.phase }, { on := 12, ground := Go.Ground.phase }, { on := 13, ground := Go.Ground.phase }, { on := 14, ground := Go.Ground.textOnly Go.Departure.lateStores }, { on := 15, ground := Go.Ground.phase }], guard := none }) rfl (fun K hK => ?_) AllReadyH.nil)
        obtain ⟨⟨q0, q1, q2, q3, q4, q5⟩, y⟩ := hz.out.cells
        have y0 := y 0
        have y1 := y 1
        have y2 := y 2
        have y3 := y 3
        have y4 := y 4
        have y5 := y 5
        clear y
        go_simp
        replace is := is.six hz.out hws.out (.int .i64 (kd : Nat)) (.int .i64 m') (.bool g') (.int .i64 a') (.int .i64 n') (.int .i64 s')
        have hg0 := hz.out.got0 kd m' g' a' n' s'
        refine hK.out _ _ (HC.out _ _ _ is) (fun hS1 => ?_)
        (try simp only [Act.put, List.setIfInBounds_toArray, List.set_cons_zero, List.set_cons_succ])
        clear hK K q0 q1 q2 q3 q4 q5 y0 y1 y2 y3 y4 y5 hz
        refine wpAnyH_take (i := 17) (oi := { dst := some 5, op := Go.Op.assign (Go.Operand.tmp 20), type := 4, pos := "sweep.go:118", after := #[{ on := 14, ground := Go.Ground.data }, { on := 16, ground := Go.Ground.chain }, { on := 0, ground := Go.Ground.phase }, { on := 1, ground := Go.Ground.phase }, { on := 2, ground := Go.Ground.phase }, { on := 3, ground := Go.Ground.phase }, { on := 4, ground := Go.Ground.phase }, { on := 5, ground := Go.Ground.phase }, { on := 6, ground := Go.Ground.phase }, { on := 7, ground := Go.Ground.phase }, { on := 8, ground := Go.Ground.phase }, { on := 9, ground := Go.Ground.phase }, { on := 10, ground := Go.Ground.phase }, { on := 11, ground := Go.Ground.phase }, { on := 12, ground := Go.Ground.phase }, { on := 13, ground := Go.Ground.phase }, { on := 14, ground := Go.Ground.phase }, { on := 15, ground := Go.Ground.phase }, { on := 16, ground := Go.Ground.phase }], guard := none }) (v := .bool z') rfl (by kernel_rfl) (by kernel_rfl) (by kernel_rfl) (fun _ _ _ h => h) (Or.inl ⟨by rfl, fun w hSw => by (try dsimp only at hSw); go_simp⟩) hS1 ?_
        simp only [Act.put, List.setIfInBounds_toArray, List.set_cons_zero, List.set_cons_succ]
        refine wpAnyH_done (by kernel_rfl) ?_ _
        clear hS1
        generalize (((((((wA.setCell ⟨R, 0, none⟩ (.int .i64 (kd : Nat))).setCell ⟨R, 1, none⟩ (.int .i64 m')).setCell ⟨R, 2, none⟩ (.bool g')).setCell ⟨R, 3, none⟩ (.int .i64 a')).setCell ⟨R, 4, none⟩ (.int .i64 n')).setCell ⟨R, 5, none⟩ (.int .i64 s'))) = wf at *
        have hk2 : ¬ (kd : Int) = 3 := by omega
        have q5 := HN.out _ _ is
        go_wp2_with (go_at_call 52; refine q5.mono ?_; rintro e w8 ⟨rfl, c8, i8, n8, s8⟩)
        exact bodyPost_ret (results_none rfl _ _ _) rfl ⟨rfl, _, i8, n8, s8⟩
      · go_simp
        have hz : Hid _ := HdZ.ofNew is
        replace is := is.below (alloc_below _ (.cells #[.int .i64 0, .int .i64 0, .bool false, .int .i64 0, .int .i64 0, .int .i64 0] 43))
        refine hK.out _ _ (HC.out _ _ _ is) (fun hS1 => ?_)
        (try simp only [Act.put, List.setIfInBounds_toArray, List.set_cons_zero, List.set_cons_succ])
        clear hK K
        generalize w5.heap.size = R at hz ⊢
        generalize w5.alloc (.cells #[.int .i64 0, .int .i64 0, .bool false, .int .i64 0, .int .i64 0, .int .i64 0] 43) = wA at *
        refine wpAnyH_ready (rs := [11]) (by kernel_rfl) (by simp) (AllReadyH.cons (o := { dst := some 18, op := Go.Op.call { callee := Go.Callee.value (Go.Operand.func 51), args := #[Go.Operand.tmp 17], argTypes := #[25] }, type := 44, pos := "sweep.go:118", after := #[{ on := 10, ground := Go.Ground.data }, { on := 10, ground := Go.Ground.chain }], guard := none }) rfl (fun K hK => ?_) AllReadyH.nil)
        go_simp
        go_at_call 51
        with_reducible refine (c3 _ is.wt).mono ?_
        rintro e w6 ⟨rfl, b⟩
        (try simp only [])
        replace is := is.below b
        replace hz : Hid _ := hz.out.below b
        clear b
        refine hK.out _ _ (HC.out _ _ _ is) (fun hS1 => ?_)
        (try simp only [Act.put, List.setIfInBounds_toArray, List.set_cons_zero, List.set_cons_succ])
        clear hK K
        refine wpAnyH_take (i := 12) (oi := { dst := some 6, op := Go.Op.move (Go.Operand.tmp 18), type := 44, pos := "sweep.go:118", after := #[{ on := 11, ground := Go.Ground.data }], guard := none }) (v := .tuple #[.agg #[.int .i64 (kd : Nat), .int .i64 m', .bool g', .int .i64 a', .int .i64 n', .int .i64 s'], .bool z']) rfl (by kernel_rfl) (by kernel_rfl) (by kernel_rfl) (fun _ _ _ h => h) (Or.inl ⟨by rfl, fun w hSw => by (try dsimp only at hSw); go_simp⟩) hS1 ?_
        simp only [Act.put, List.setIfInBounds_toArray, List.set_cons_zero, List.set_cons_succ]
        refine wpAnyH_take (i := 13) (oi := { dst := some 19, op := Go.Op.extract (Go.Operand.tmp 6) 0, type := 43, pos := "sweep.go:118", after := #[{ on := 12, ground := Go.Ground.data }], guard := none }) (v := .agg #[.int .i64 (kd : Nat), .int .i64 m', .bool g', .int .i64 a', .int .i64 n', .int .i64 s']) rfl (by kernel_rfl) (by kernel_rfl) (by kernel_rfl) (fun _ _ _ h => h) (Or.inl ⟨by rfl, fun w hSw => by (try dsimp only at hSw); go_simp⟩) hS1 ?_
        simp only [Act.put, List.setIfInBounds_toArray, List.set_cons_zero, List.set_cons_succ]
        refine wpAnyH_take (i := 14) (oi := { dst := some 20, op := Go.Op.extract (Go.Operand.tmp 6) 1, type := 4, pos := "sweep.go:118", after := #[{ on := 12, ground := Go.Ground.data }, { on := 16, ground := Go.Ground.gcOnly Go.Departure.lateStores }], guard := none }) (v := .bool z') rfl (by kernel_rfl) (by kernel_rfl) (by kernel_rfl) (fun _ _ _ h => h) (Or.inl ⟨by rfl, fun w hSw => by (try dsimp only at hSw); go_simp⟩) hS1 ?_
        simp only [Act.put, List.setIfInBounds_toArray, List.set_cons_zero, List.set_cons_succ]
        refine wpAnyH_ready (rs := [16]) (by kernel_rfl) (by simp) (AllReadyH.cons (o := { dst := none, op := Go.Op.store 43 (Go.Operand.tmp 4) (Go.Operand.tmp 19), type := 0, pos := "sweep.go:118", after := #[{ on := 15, ground := Go.Ground.data }, { on := 13, ground := Go.Ground.data }, { on := 11, ground := Go.Ground.chain }, { on := 0, ground := Go.Ground.phase }, { on := 1, ground := Go.Ground.phase }, { on := 2, ground := Go.Ground.phase }, { on := 3, ground := Go.Ground.phase }, { on := 4, ground := Go.Ground.phase }, { on := 5, ground := Go.Ground.phase }, { on := 6, ground := Go.Ground.phase }, { on := 7, ground := Go.Ground.phase }, { on := 8, ground := Go.Ground.phase }, { on := 9, ground := Go.Ground.phase }, { on := 10, ground := Go.Ground.phase }, { on := 11, ground := Go.Ground.phase }, { on := 12, ground := Go.Ground.phase }, { on := 13, ground := Go.Ground.phase }, { on := 14, ground := Go.Ground.textOnly Go.Departure.lateStores }, { on := 15, ground := Go.Ground.phase }], guard := none }) rfl (fun K hK => ?_) AllReadyH.nil)
        obtain ⟨⟨q0, q1, q2, q3, q4, q5⟩, y⟩ := hz.out.cells
        have y0 := y 0
        have y1 := y 1
        have y2 := y 2
        have y3 := y 3
        have y4 := y 4
        have y5 := y 5
        clear y
        go_simp
        replace is := is.six hz.out hws.out (.int .i64 (kd : Nat)) (.int .i64 m') (.bool g') (.int .i64 a') (.int .i64 n') (.int .i64 s')
        have hg0 := hz.out.got0 kd m' g' a' n' s'
        refine hK.out _ _ (HC.out _ _ _ is) (fun hS1 => ?_)
        (try simp only [Act.put, List.setIfInBounds_toArray, List.set_cons_zero, List.set_cons_succ])
        clear hK K q0 q1 q2 q3 q4 q5 y0 y1 y2 y3 y4 y5 hz
        refine wpAnyH_take (i := 17) (oi := { dst := some 5, op := Go.Op.assign (Go.Operand.tmp 20), type := 4, pos := "sweep.go:118", after := #[{ on := 14, ground := Go.Ground.data }, { on := 16, ground := Go.Ground.chain }, { on := 0, ground := Go.Ground.phase }, { on := 1, ground := Go.Ground.phase }, { on := 2, ground := Go.Ground.phase }, { on := 3, ground := Go.Ground.phase }, { on := 4, ground := Go.Ground.phase }, { on := 5, ground := Go.Ground.phase }, { on := 6, ground := Go.Ground.phase }, { on := 7, ground := Go.Ground.phase }, { on := 8, ground := Go.Ground.phase }, { on := 9, ground := Go.Ground.phase }, { on := 10, ground := Go.Ground.phase }, { on := 11, ground := Go.Ground.phase }, { on := 12, ground := Go.Ground.phase }, { on := 13, ground := Go.Ground.phase }, { on := 14, ground := Go.Ground.phase }, { on := 15, ground := Go.Ground.phase }, { on := 16, ground := Go.Ground.phase }], guard := none }) (v := .bool z') rfl (by kernel_rfl) (by kernel_rfl) (by kernel_rfl) (fun _ _ _ h => h) (Or.inl ⟨by rfl, fun w hSw => by (try dsimp only at hSw); go_simp⟩) hS1 ?_
        simp only [Act.put, List.setIfInBounds_toArray, List.set_cons_zero, List.set_cons_succ]
        refine wpAnyH_done (by kernel_rfl) ?_ _
        clear hS1
        generalize (((((((w6.setCell ⟨R, 0, none⟩ (.int .i64 (kd : Nat))).setCell ⟨R, 1, none⟩ (.int .i64 m')).setCell ⟨R, 2, none⟩ (.bool g')).setCell ⟨R, 3, none⟩ (.int .i64 a')).setCell ⟨R, 4, none⟩ (.int .i64 n')).setCell ⟨R, 5, none⟩ (.int .i64 s'))) = wf at *
        have hk2 : ¬ (kd : Int) = 3 := by omega
        have q5 := HN.out _ _ is
        go_wp2_with (go_at_call 52; refine q5.mono ?_; rintro e w8 ⟨rfl, c8, i8, n8, s8⟩)
        exact bodyPost_ret (results_none rfl _ _ _) rfl ⟨rfl, _, i8, n8, s8⟩
    · go_simp
      have hz : Hid _ := HdZ.ofNew is
      replace is := is.below (alloc_below _ (.cells #[.int .i64 0, .int .i64 0, .bool false, .int .i64 0, .int .i64 0, .int .i64 0] 43))
      refine hK.out _ _ (HC.out _ _ _ is) (fun hS1 => ?_)
      (try simp only [Act.put, List.setIfInBounds_toArray, List.set_cons_zero, List.set_cons_succ])
      clear hK K
      generalize w4.heap.size = R at hz ⊢
      generalize w4.alloc (.cells #[.int .i64 0, .int .i64 0, .bool false, .int .i64 0, .int .i64 0, .int .i64 0] 43) = wA at *
      refine wpAnyH_ready (rs := [10]) (by kernel_rfl) (by simp) (AllReadyH.cons (o := { dst := some 17, op := Go.Op.call { callee := Go.Callee.value (Go.Operand.func 46), args := #[Go.Operand.tmp 7, Go.Operand.tmp 16], argTypes := #[30, 3] }, type := 25, pos := "sweep.go:118", after := #[{ on := 0, ground := Go.Ground.data }, { on := 9, ground := Go.Ground.data }, { on := 9, ground := Go.Ground.chain }], guard := none }) rfl (fun K hK => ?_) AllReadyH.nil)
      go_simp
      go_at_call 46
      with_reducible refine (c0 _ is).mono ?_
      rintro e w5 ⟨rfl, i1, ho⟩
      (try simp only [])
      clear is
      have is := i1
      clear i1
      replace hz : Hid _ := hz.out.only ho
      clear ho
      refine hK.out _ _ (HC.out _ _ _ is) (fun hS1 => ?_)
      (try simp only [Act.put, List.setIfInBounds_toArray, List.set_cons_zero, List.set_cons_succ])
      clear hK K
      refine wpAnyH_ready (rs := [11]) (by kernel_rfl) (by simp) (AllReadyH.cons (o := { dst := some 18, op := Go.Op.call { callee := Go.Callee.value (Go.Operand.func 51), args := #[Go.Operand.tmp 17], argTypes := #[25] }, type := 44, pos := "sweep.go:118", after := #[{ on := 10, ground := Go.Ground.data }, { on := 10, ground := Go.Ground.chain }], guard := none }) rfl (fun K hK => ?_) AllReadyH.nil)
      go_simp
      go_at_call 51
      with_reducible refine (c3 _ is.wt).mono ?_
      rintro e w6 ⟨rfl, b⟩
      (try simp only [])
      replace is := is.below b
      replace hz : Hid _ := hz.out.below b
      clear b
      refine hK.out _ _ (HC.out _ _ _ is) (fun hS1 => ?_)
      (try simp only [Act.put, List.setIfInBounds_toArray, List.set_cons_zero, List.set_cons_succ])
      clear hK K
      refine wpAnyH_take (i := 12) (oi := { dst := some 6, op := Go.Op.move (Go.Operand.tmp 18), type := 44, pos := "sweep.go:118", after := #[{ on := 11, ground := Go.Ground.data }], guard := none }) (v := .tuple #[.agg #[.int .i64 (kd : Nat), .int .i64 m', .bool g', .int .i64 a', .int .i64 n', .int .i64 s'], .bool z']) rfl (by kernel_rfl) (by kernel_rfl) (by kernel_rfl) (fun _ _ _ h => h) (Or.inl ⟨by rfl, fun w hSw => by (try dsimp only at hSw); go_simp⟩) hS1 ?_
      simp only [Act.put, List.setIfInBounds_toArray, List.set_cons_zero, List.set_cons_succ]
      refine wpAnyH_take (i := 13) (oi := { dst := some 19, op := Go.Op.extract (Go.Operand.tmp 6) 0, type := 43, pos := "sweep.go:118", after := #[{ on := 12, ground := Go.Ground.data }], guard := none }) (v := .agg #[.int .i64 (kd : Nat), .int .i64 m', .bool g', .int .i64 a', .int .i64 n', .int .i64 s']) rfl (by kernel_rfl) (by kernel_rfl) (by kernel_rfl) (fun _ _ _ h => h) (Or.inl ⟨by rfl, fun w hSw => by (try dsimp only at hSw); go_simp⟩) hS1 ?_
      simp only [Act.put, List.setIfInBounds_toArray, List.set_cons_zero, List.set_cons_succ]
      refine wpAnyH_take (i := 14) (oi := { dst := some 20, op := Go.Op.extract (Go.Operand.tmp 6) 1, type := 4, pos := "sweep.go:118", after := #[{ on := 12, ground := Go.Ground.data }, { on := 16, ground := Go.Ground.gcOnly Go.Departure.lateStores }], guard := none }) (v := .bool z') rfl (by kernel_rfl) (by kernel_rfl) (by kernel_rfl) (fun _ _ _ h => h) (Or.inl ⟨by rfl, fun w hSw => by (try dsimp only at hSw); go_simp⟩) hS1 ?_
      simp only [Act.put, List.setIfInBounds_toArray, List.set_cons_zero, List.set_cons_succ]
      refine wpAnyH_ready (rs := [16]) (by kernel_rfl) (by simp) (AllReadyH.cons (o := { dst := none, op := Go.Op.store 43 (Go.Operand.tmp 4) (Go.Operand.tmp 19), type := 0, pos := "sweep.go:118", after := #[{ on := 15, ground := Go.Ground.data }, { on := 13, ground := Go.Ground.data }, { on := 11, ground := Go.Ground.chain }, { on := 0, ground := Go.Ground.phase }, { on := 1, ground := Go.Ground.phase }, { on := 2, ground := Go.Ground.phase }, { on := 3, ground := Go.Ground.phase }, { on := 4, ground := Go.Ground.phase }, { on := 5, ground := Go.Ground.phase }, { on := 6, ground := Go.Ground.phase }, { on := 7, ground := Go.Ground.phase }, { on := 8, ground := Go.Ground.phase }, { on := 9, ground := Go.Ground.phase }, { on := 10, ground := Go.Ground.phase }, { on := 11, ground := Go.Ground.phase }, { on := 12, ground := Go.Ground.phase }, { on := 13, ground := Go.Ground.phase }, { on := 14, ground := Go.Ground.textOnly Go.Departure.lateStores }, { on := 15, ground := Go.Ground.phase }], guard := none }) rfl (fun K hK => ?_) AllReadyH.nil)
      obtain ⟨⟨q0, q1, q2, q3, q4, q5⟩, y⟩ := hz.out.cells
      have y0 := y 0
      have y1 := y 1
      have y2 := y 2
      have y3 := y 3
      have y4 := y 4
      have y5 := y 5
      clear y
      go_simp
      replace is := is.six hz.out hws.out (.int .i64 (kd : Nat)) (.int .i64 m') (.bool g') (.int .i64 a') (.int .i64 n') (.int .i64 s')
      have hg0 := hz.out.got0 kd m' g' a' n' s'
      refine hK.out _ _ (HC.out _ _ _ is) (fun hS1 => ?_)
      (try simp only [Act.put, List.setIfInBounds_toArray, List.set_cons_zero, List.set_cons_succ])
      clear hK K q0 q1 q2 q3 q4 q5 y0 y1 y2 y3 y4 y5 hz
      refine wpAnyH_take (i := 17) (oi := { dst := some 5, op := Go.Op.assign (Go.Operand.tmp 20), type := 4, pos := "sweep.go:118", after := #[{ on := 14, ground := Go.Ground.data }, { on := 16, ground := Go.Ground.chain }, { on := 0, ground := Go.Ground.phase }, { on := 1, ground := Go.Ground.phase }, { on := 2, ground := Go.Ground.phase }, { on := 3, ground := Go.Ground.phase }, { on := 4, ground := Go.Ground.phase }, { on := 5, ground := Go.Ground.phase }, { on := 6, ground := Go.Ground.phase }, { on := 7, ground := Go.Ground.phase }, { on := 8, ground := Go.Ground.phase }, { on := 9, ground := Go.Ground.phase }, { on := 10, ground := Go.Ground.phase }, { on := 11, ground := Go.Ground.phase }, { on := 12, ground := Go.Ground.phase }, { on := 13, ground := Go.Ground.phase }, { on := 14, ground := Go.Ground.phase }, { on := 15, ground := Go.Ground.phase }, { on := 16, ground := Go.Ground.phase }], guard := none }) (v := .bool z') rfl (by kernel_rfl) (by kernel_rfl) (by kernel_rfl) (fun _ _ _ h => h) (Or.inl ⟨by rfl, fun w hSw => by (try dsimp only at hSw); go_simp⟩) hS1 ?_
      simp only [Act.put, List.setIfInBounds_toArray, List.set_cons_zero, List.set_cons_succ]
      refine wpAnyH_done (by kernel_rfl) ?_ _
      clear hS1
      generalize (((((((w6.setCell ⟨R, 0, none⟩ (.int .i64 (kd : Nat))).setCell ⟨R, 1, none⟩ (.int .i64 m')).setCell ⟨R, 2, none⟩ (.bool g')).setCell ⟨R, 3, none⟩ (.int .i64 a')).setCell ⟨R, 4, none⟩ (.int .i64 n')).setCell ⟨R, 5, none⟩ (.int .i64 s'))) = wf at *
      have hk2 : ¬ (kd : Int) = 3 := by omega
      have q5 := HN.out _ _ is
      go_wp2_with (go_at_call 52; refine q5.mono ?_; rintro e w8 ⟨rfl, c8, i8, n8, s8⟩)
      exact bodyPost_ret (results_none rfl _ _ _) rfl ⟨rfl, _, i8, n8, s8⟩
  · go_simp
    have hz : Hid _ := HdZ.ofNewD is0
    replace is := (is0.below (alloc_below _ (.cells #[.int .i64 0, .int .i64 0, .bool false, .int .i64 0, .int .i64 0, .int .i64 0] 43))).drew
    refine hK.out _ _ (HC.out _ _ _ is) (fun hS1 => ?_)
    (try simp only [Act.put, List.setIfInBounds_toArray, List.set_cons_zero, List.set_cons_succ])
    clear hK K
    generalize w.heap.size = R at hz ⊢
    generalize (w.alloc (.cells #[.int .i64 0, .int .i64 0, .bool false, .int .i64 0, .int .i64 0, .int .i64 0] 43)).drew = wA at *
    refine wpAnyH_ready (rs := [9]) (by kernel_rfl) (by simp) (AllReadyH.cons (o := { dst := some 16, op := Go.Op.call { callee := Go.Callee.value (Go.Operand.func 47), args := #[Go.Operand.tmp 11, Go.Operand.tmp 15], argTypes := #[23, 3] }, type := 3, pos := "sweep.go:118", after := #[{ on := 4, ground := Go.Ground.data }, { on := 8, ground := Go.Ground.data }], guard := none }) rfl (fun K hK => ?_) AllReadyH.nil)
    go_simp
    go_at_call 47
    with_reducible refine (c1 _).mono ?_
    rintro e w4 ⟨rfl, b⟩
    (try simp only [])
    replace is := is.below b
    replace hz : Hid _ := hz.out.below b
    clear b
    refine hK.out _ _ (HC.out _ _ _ is) (fun hS1 => ?_)
    (try simp only [Act.put, List.setIfInBounds_toArray, List.set_cons_zero, List.set_cons_succ])
    clear hK K
    refine wpAnyH_ready (rs := [10]) (by kernel_rfl) (by simp) (AllReadyH.cons (o := { dst := some 17, op := Go.Op.call { callee := Go.Callee.value (Go.Operand.func 46), args := #[Go.Operand.tmp 7, Go.Operand.tmp 16], argTypes := #[30, 3] }, type := 25, pos := "sweep.go:118", after := #[{ on := 0, ground := Go.Ground.data }, { on := 9, ground := Go.Ground.data }, { on := 9, ground := Go.Ground.chain }], guard := none }) rfl (fun K hK => ?_) AllReadyH.nil)
    go_simp
    go_at_call 46
    with_reducible refine (c0 _ is).mono ?_
    rintro e w5 ⟨rfl, i1, ho⟩
    (try simp only [])
    clear is
    have is := i1
    clear i1
    replace hz : Hid _ := hz.out.only ho
    clear ho
    refine hK.out _ _ (HC.out _ _ _ is) (fun hS1 => ?_)
    (try simp only [Act.put, List.setIfInBounds_toArray, List.set_cons_zero, List.set_cons_succ])
    clear hK K
    refine wpAnyH_ready (rs := [11]) (by kernel_rfl) (by simp) (AllReadyH.cons (o := { dst := some 18, op := Go.Op.call { callee := Go.Callee.value (Go.Operand.func 51), args := #[Go.Operand.tmp 17], argTypes := #[25] }, type := 44, pos := "sweep.go:118", after := #[{ on := 10, ground := Go.Ground.data }, { on := 10, ground := Go.Ground.chain }], guard := none }) rfl (fun K hK => ?_) AllReadyH.nil)
    go_simp
    go_at_call 51
    with_reducible refine (c3 _ is.wt).mono ?_
    rintro e w6 ⟨rfl, b⟩
    (try simp only [])
    replace is := is.below b
    replace hz : Hid _ := hz.out.below b
    clear b
    refine hK.out _ _ (HC.out _ _ _ is) (fun hS1 => ?_)
    (try simp only [Act.put, List.setIfInBounds_toArray, List.set_cons_zero, List.set_cons_succ])
    clear hK K
    refine wpAnyH_take (i := 12) (oi := { dst := some 6, op := Go.Op.move (Go.Operand.tmp 18), type := 44, pos := "sweep.go:118", after := #[{ on := 11, ground := Go.Ground.data }], guard := none }) (v := .tuple #[.agg #[.int .i64 (kd : Nat), .int .i64 m', .bool g', .int .i64 a', .int .i64 n', .int .i64 s'], .bool z']) rfl (by kernel_rfl) (by kernel_rfl) (by kernel_rfl) (fun _ _ _ h => h) (Or.inl ⟨by rfl, fun w hSw => by (try dsimp only at hSw); go_simp⟩) hS1 ?_
    simp only [Act.put, List.setIfInBounds_toArray, List.set_cons_zero, List.set_cons_succ]
    refine wpAnyH_take (i := 13) (oi := { dst := some 19, op := Go.Op.extract (Go.Operand.tmp 6) 0, type := 43, pos := "sweep.go:118", after := #[{ on := 12, ground := Go.Ground.data }], guard := none }) (v := .agg #[.int .i64 (kd : Nat), .int .i64 m', .bool g', .int .i64 a', .int .i64 n', .int .i64 s']) rfl (by kernel_rfl) (by kernel_rfl) (by kernel_rfl) (fun _ _ _ h => h) (Or.inl ⟨by rfl, fun w hSw => by (try dsimp only at hSw); go_simp⟩) hS1 ?_
    simp only [Act.put, List.setIfInBounds_toArray, List.set_cons_zero, List.set_cons_succ]
    refine wpAnyH_take (i := 14) (oi := { dst := some 20, op := Go.Op.extract (Go.Operand.tmp 6) 1, type := 4, pos := "sweep.go:118", after := #[{ on := 12, ground := Go.Ground.data }, { on := 16, ground := Go.Ground.gcOnly Go.Departure.lateStores }], guard := none }) (v := .bool z') rfl (by kernel_rfl) (by kernel_rfl) (by kernel_rfl) (fun _ _ _ h => h) (Or.inl ⟨by rfl, fun w hSw => by (try dsimp only at hSw); go_simp⟩) hS1 ?_
    simp only [Act.put, List.setIfInBounds_toArray, List.set_cons_zero, List.set_cons_succ]
    refine wpAnyH_ready (rs := [16]) (by kernel_rfl) (by simp) (AllReadyH.cons (o := { dst := none, op := Go.Op.store 43 (Go.Operand.tmp 4) (Go.Operand.tmp 19), type := 0, pos := "sweep.go:118", after := #[{ on := 15, ground := Go.Ground.data }, { on := 13, ground := Go.Ground.data }, { on := 11, ground := Go.Ground.chain }, { on := 0, ground := Go.Ground.phase }, { on := 1, ground := Go.Ground.phase }, { on := 2, ground := Go.Ground.phase }, { on := 3, ground := Go.Ground.phase }, { on := 4, ground := Go.Ground.phase }, { on := 5, ground := Go.Ground.phase }, { on := 6, ground := Go.Ground.phase }, { on := 7, ground := Go.Ground.phase }, { on := 8, ground := Go.Ground.phase }, { on := 9, ground := Go.Ground.phase }, { on := 10, ground := Go.Ground.phase }, { on := 11, ground := Go.Ground.phase }, { on := 12, ground := Go.Ground.phase }, { on := 13, ground := Go.Ground.phase }, { on := 14, ground := Go.Ground.textOnly Go.Departure.lateStores }, { on := 15, ground := Go.Ground.phase }], guard := none }) rfl (fun K hK => ?_) AllReadyH.nil)
    obtain ⟨⟨q0, q1, q2, q3, q4, q5⟩, y⟩ := hz.out.cells
    have y0 := y 0
    have y1 := y 1
    have y2 := y 2
    have y3 := y 3
    have y4 := y 4
    have y5 := y 5
    clear y
    go_simp
    replace is := is.six hz.out hws.out (.int .i64 (kd : Nat)) (.int .i64 m') (.bool g') (.int .i64 a') (.int .i64 n') (.int .i64 s')
    have hg0 := hz.out.got0 kd m' g' a' n' s'
    refine hK.out _ _ (HC.out _ _ _ is) (fun hS1 => ?_)
    (try simp only [Act.put, List.setIfInBounds_toArray, List.set_cons_zero, List.set_cons_succ])
    clear hK K q0 q1 q2 q3 q4 q5 y0 y1 y2 y3 y4 y5 hz
    refine wpAnyH_take (i := 17) (oi := { dst := some 5, op := Go.Op.assign (Go.Operand.tmp 20), type := 4, pos := "sweep.go:118", after := #[{ on := 14, ground := Go.Ground.data }, { on := 16, ground := Go.Ground.chain }, { on := 0, ground := Go.Ground.phase }, { on := 1, ground := Go.Ground.phase }, { on := 2, ground := Go.Ground.phase }, { on := 3, ground := Go.Ground.phase }, { on := 4, ground := Go.Ground.phase }, { on := 5, ground := Go.Ground.phase }, { on := 6, ground := Go.Ground.phase }, { on := 7, ground := Go.Ground.phase }, { on := 8, ground := Go.Ground.phase }, { on := 9, ground := Go.Ground.phase }, { on := 10, ground := Go.Ground.phase }, { on := 11, ground := Go.Ground.phase }, { on := 12, ground := Go.Ground.phase }, { on := 13, ground := Go.Ground.phase }, { on := 14, ground := Go.Ground.phase }, { on := 15, ground := Go.Ground.phase }, { on := 16, ground := Go.Ground.phase }], guard := none }) (v := .bool z') rfl (by kernel_rfl) (by kernel_rfl) (by kernel_rfl) (fun _ _ _ h => h) (Or.inl ⟨by rfl, fun w hSw => by (try dsimp only at hSw); go_simp⟩) hS1 ?_
    simp only [Act.put, List.setIfInBounds_toArray, List.set_cons_zero, List.set_cons_succ]
    refine wpAnyH_done (by kernel_rfl) ?_ _
    clear hS1
    generalize (((((((w6.setCell ⟨R, 0, none⟩ (.int .i64 (kd : Nat))).setCell ⟨R, 1, none⟩ (.int .i64 m')).setCell ⟨R, 2, none⟩ (.bool g')).setCell ⟨R, 3, none⟩ (.int .i64 a')).setCell ⟨R, 4, none⟩ (.int .i64 n')).setCell ⟨R, 5, none⟩ (.int .i64 s'))) = wf at *
    have hk2 : ¬ (kd : Int) = 3 := by omega
    have q5 := HN.out _ _ is
    go_wp2_with (go_at_call 52; refine q5.mono ?_; rintro e w8 ⟨rfl, c8, i8, n8, s8⟩)
    exact bodyPost_ret (results_none rfl _ _ _) rfl ⟨rfl, _, i8, n8, s8⟩

theorem put15 {c : Array Value} {o : Nat} (h : o + 14 < c.size) (v0 v1 v2 v3 v4 v5 v6 v7 v8 v9 v10 v11 v12 v13 v14 : Value) : ((((((((((((((((c.setIfInBounds (o) (v0)).setIfInBounds (o + 1) (v1)).setIfInBounds (o + 2) (v2)).setIfInBounds (o + 3) (v3)).setIfInBounds (o + 4) (v4)).setIfInBounds (o + 5) (v5)).setIfInBounds (o + 6) (v6)).setIfInBounds (o + 7) (v7)).setIfInBounds (o + 8) (v8)).setIfInBounds (o + 9) (v9)).setIfInBounds (o + 10) (v10)).setIfInBounds (o + 11) (v11)).setIfInBounds (o + 12) (v12)).setIfInBounds (o + 13) (v13)).setIfInBounds (o + 14) (v14))[o]? = some v0 ∧ (((((((((((((((c.setIfInBounds (o) (v0)).setIfInBounds (o + 1) (v1)).setIfInBounds (o + 2) (v2)).setIfInBounds (o + 3) (v3)).setIfInBounds (o + 4) (v4)).setIfInBounds (o + 5) (v5)).setIfInBounds (o + 6) (v6)).setIfInBounds (o + 7) (v7)).setIfInBounds (o + 8) (v8)).setIfInBounds (o + 9) (v9)).setIfInBounds (o + 10) (v10)).setIfInBounds (o + 11) (v11)).setIfInBounds (o + 12) (v12)).setIfInBounds (o + 13) (v13)).setIfInBounds (o + 14) (v14))[o + 1]? = some v1 ∧ (((((((((((((((c.setIfInBounds (o) (v0)).setIfInBounds (o + 1) (v1)).setIfInBounds (o + 2) (v2)).setIfInBounds (o + 3) (v3)).setIfInBounds (o + 4) (v4)).setIfInBounds (o + 5) (v5)).setIfInBounds (o + 6) (v6)).setIfInBounds (o + 7) (v7)).setIfInBounds (o + 8) (v8)).setIfInBounds (o + 9) (v9)).setIfInBounds (o + 10) (v10)).setIfInBounds (o + 11) (v11)).setIfInBounds (o + 12) (v12)).setIfInBounds (o + 13) (v13)).setIfInBounds (o + 14) (v14))[o + 2]? = some v2 ∧ (((((((((((((((c.setIfInBounds (o) (v0)).setIfInBounds (o + 1) (v1)).setIfInBounds (o + 2) (v2)).setIfInBounds (o + 3) (v3)).setIfInBounds (o + 4) (v4)).setIfInBounds (o + 5) (v5)).setIfInBounds (o + 6) (v6)).setIfInBounds (o + 7) (v7)).setIfInBounds (o + 8) (v8)).setIfInBounds (o + 9) (v9)).setIfInBounds (o + 10) (v10)).setIfInBounds (o + 11) (v11)).setIfInBounds (o + 12) (v12)).setIfInBounds (o + 13) (v13)).setIfInBounds (o + 14) (v14))[o + 3]? = some v3 ∧ (((((((((((((((c.setIfInBounds (o) (v0)).setIfInBounds (o + 1) (v1)).setIfInBounds (o + 2) (v2)).setIfInBounds (o + 3) (v3)).setIfInBounds (o + 4) (v4)).setIfInBounds (o + 5) (v5)).setIfInBounds (o + 6) (v6)).setIfInBounds (o + 7) (v7)).setIfInBounds (o + 8) (v8)).setIfInBounds (o + 9) (v9)).setIfInBounds (o + 10) (v10)).setIfInBounds (o + 11) (v11)).setIfInBounds (o + 12) (v12)).setIfInBounds (o + 13) (v13)).setIfInBounds (o + 14) (v14))[o + 4]? = some v4 ∧ (((((((((((((((c.setIfInBounds (o) (v0)).setIfInBounds (o + 1) (v1)).setIfInBounds (o + 2) (v2)).setIfInBounds (o + 3) (v3)).setIfInBounds (o + 4) (v4)).setIfInBounds (o + 5) (v5)).setIfInBounds (o + 6) (v6)).setIfInBounds (o + 7) (v7)).setIfInBounds (o + 8) (v8)).setIfInBounds (o + 9) (v9)).setIfInBounds (o + 10) (v10)).setIfInBounds (o + 11) (v11)).setIfInBounds (o + 12) (v12)).setIfInBounds (o + 13) (v13)).setIfInBounds (o + 14) (v14))[o + 5]? = some v5 ∧ (((((((((((((((c.setIfInBounds (o) (v0)).setIfInBounds (o + 1) (v1)).setIfInBounds (o + 2) (v2)).setIfInBounds (o + 3) (v3)).setIfInBounds (o + 4) (v4)).setIfInBounds (o + 5) (v5)).setIfInBounds (o + 6) (v6)).setIfInBounds (o + 7) (v7)).setIfInBounds (o + 8) (v8)).setIfInBounds (o + 9) (v9)).setIfInBounds (o + 10) (v10)).setIfInBounds (o + 11) (v11)).setIfInBounds (o + 12) (v12)).setIfInBounds (o + 13) (v13)).setIfInBounds (o + 14) (v14))[o + 6]? = some v6 ∧ (((((((((((((((c.setIfInBounds (o) (v0)).setIfInBounds (o + 1) (v1)).setIfInBounds (o + 2) (v2)).setIfInBounds (o + 3) (v3)).setIfInBounds (o + 4) (v4)).setIfInBounds (o + 5) (v5)).setIfInBounds (o + 6) (v6)).setIfInBounds (o + 7) (v7)).setIfInBounds (o + 8) (v8)).setIfInBounds (o + 9) (v9)).setIfInBounds (o + 10) (v10)).setIfInBounds (o + 11) (v11)).setIfInBounds (o + 12) (v12)).setIfInBounds (o + 13) (v13)).setIfInBounds (o + 14) (v14))[o + 7]? = some v7 ∧ (((((((((((((((c.setIfInBounds (o) (v0)).setIfInBounds (o + 1) (v1)).setIfInBounds (o + 2) (v2)).setIfInBounds (o + 3) (v3)).setIfInBounds (o + 4) (v4)).setIfInBounds (o + 5) (v5)).setIfInBounds (o + 6) (v6)).setIfInBounds (o + 7) (v7)).setIfInBounds (o + 8) (v8)).setIfInBounds (o + 9) (v9)).setIfInBounds (o + 10) (v10)).setIfInBounds (o + 11) (v11)).setIfInBounds (o + 12) (v12)).setIfInBounds (o + 13) (v13)).setIfInBounds (o + 14) (v14))[o + 8]? = some v8 ∧ (((((((((((((((c.setIfInBounds (o) (v0)).setIfInBounds (o + 1) (v1)).setIfInBounds (o + 2) (v2)).setIfInBounds (o + 3) (v3)).setIfInBounds (o + 4) (v4)).setIfInBounds (o + 5) (v5)).setIfInBounds (o + 6) (v6)).setIfInBounds (o + 7) (v7)).setIfInBounds (o + 8) (v8)).setIfInBounds (o + 9) (v9)).setIfInBounds (o + 10) (v10)).setIfInBounds (o + 11) (v11)).setIfInBounds (o + 12) (v12)).setIfInBounds (o + 13) (v13)).setIfInBounds (o + 14) (v14))[o + 9]? = some v9 ∧ (((((((((((((((c.setIfInBounds (o) (v0)).setIfInBounds (o + 1) (v1)).setIfInBounds (o + 2) (v2)).setIfInBounds (o + 3) (v3)).setIfInBounds (o + 4) (v4)).setIfInBounds (o + 5) (v5)).setIfInBounds (o + 6) (v6)).setIfInBounds (o + 7) (v7)).setIfInBounds (o + 8) (v8)).setIfInBounds (o + 9) (v9)).setIfInBounds (o + 10) (v10)).setIfInBounds (o + 11) (v11)).setIfInBounds (o + 12) (v12)).setIfInBounds (o + 13) (v13)).setIfInBounds (o + 14) (v14))[o + 10]? = some v10 ∧ (((((((((((((((c.setIfInBounds (o) (v0)).setIfInBounds (o + 1) (v1)).setIfInBounds (o + 2) (v2)).setIfInBounds (o + 3) (v3)).setIfInBounds (o + 4) (v4)).setIfInBounds (o + 5) (v5)).setIfInBounds (o + 6) (v6)).setIfInBounds (o + 7) (v7)).setIfInBounds (o + 8) (v8)).setIfInBounds (o + 9) (v9)).setIfInBounds (o + 10) (v10)).setIfInBounds (o + 11) (v11)).setIfInBounds (o + 12) (v12)).setIfInBounds (o + 13) (v13)).setIfInBounds (o + 14) (v14))[o + 11]? = some v11 ∧ (((((((((((((((c.setIfInBounds (o) (v0)).setIfInBounds (o + 1) (v1)).setIfInBounds (o + 2) (v2)).setIfInBounds (o + 3) (v3)).setIfInBounds (o + 4) (v4)).setIfInBounds (o + 5) (v5)).setIfInBounds (o + 6) (v6)).setIfInBounds (o + 7) (v7)).setIfInBounds (o + 8) (v8)).setIfInBounds (o + 9) (v9)).setIfInBounds (o + 10) (v10)).setIfInBounds (o + 11) (v11)).setIfInBounds (o + 12) (v12)).setIfInBounds (o + 13) (v13)).setIfInBounds (o + 14) (v14))[o + 12]? = some v12 ∧ (((((((((((((((c.setIfInBounds (o) (v0)).setIfInBounds (o + 1) (v1)).setIfInBounds (o + 2) (v2)).setIfInBounds (o + 3) (v3)).setIfInBounds (o + 4) (v4)).setIfInBounds (o + 5) (v5)).setIfInBounds (o + 6) (v6)).setIfInBounds (o + 7) (v7)).setIfInBounds (o + 8) (v8)).setIfInBounds (o + 9) (v9)).setIfInBounds (o + 10) (v10)).setIfInBounds (o + 11) (v11)).setIfInBounds (o + 12) (v12)).setIfInBounds (o + 13) (v13)).setIfInBounds (o + 14) (v14))[o + 13]? = some v13 ∧ (((((((((((((((c.setIfInBounds (o) (v0)).setIfInBounds (o + 1) (v1)).setIfInBounds (o + 2) (v2)).setIfInBounds (o + 3) (v3)).setIfInBounds (o + 4) (v4)).setIfInBounds (o + 5) (v5)).setIfInBounds (o + 6) (v6)).setIfInBounds (o + 7) (v7)).setIfInBounds (o + 8) (v8)).setIfInBounds (o + 9) (v9)).setIfInBounds (o + 10) (v10)).setIfInBounds (o + 11) (v11)).setIfInBounds (o + 12) (v12)).setIfInBounds (o + 13) (v13)).setIfInBounds (o + 14) (v14))[o + 14]? = some v14) ∧ Same c (((((((((((((((c.setIfInBounds (o) (v0)).setIfInBounds (o + 1) (v1)).setIfInBounds (o + 2) (v2)).setIfInBounds (o + 3) (v3)).setIfInBounds (o + 4) (v4)).setIfInBounds (o + 5) (v5)).setIfInBounds (o + 6) (v6)).setIfInBounds (o + 7) (v7)).setIfInBounds (o + 8) (v8)).setIfInBounds (o + 9) (v9)).setIfInBounds (o + 10) (v10)).setIfInBounds (o + 11) (v11)).setIfInBounds (o + 12) (v12)).setIfInBounds (o + 13) (v13)).setIfInBounds (o + 14) (v14)) o (o + 14) := by
  have sz : ∀ {c : Array Value} {i : Nat} {v : Value} {n : Nat}, n < c.size → n < (c.setIfInBounds i v).size := fun h => by simpa using h
  refine ⟨⟨(get_set_ne (by omega)).trans ((get_set_ne (by omega)).trans ((get_set_ne (by omega)).trans ((get_set_ne (by omega)).trans ((get_set_ne (by omega)).trans ((get_set_ne (by omega)).trans ((get_set_ne (by omega)).trans ((get_set_ne (by omega)).trans ((get_set_ne (by omega)).trans ((get_set_ne (by omega)).trans ((get_set_ne (by omega)).trans ((get_set_ne (by omega)).trans ((get_set_ne (by omega)).trans ((get_set_ne (by omega)).trans (get_set ((by omega)))))))))))))))), (get_set_ne (by omega)).trans ((get_set_ne (by omega)).trans ((get_set_ne (by omega)).trans ((get_set_ne (by omega)).trans ((get_set_ne (by omega)).trans ((get_set_ne (by omega)).trans ((get_set_ne (by omega)).trans ((get_set_ne (by omega)).trans ((get_set_ne (by omega)).trans ((get_set_ne (by omega)).trans ((get_set_ne (by omega)).trans ((get_set_ne (by omega)).trans ((get_set_ne (by omega)).trans (get_set (sz ((by omega)))))))))))))))), (get_set_ne (by omega)).trans ((get_set_ne (by omega)).trans ((get_set_ne (by omega)).trans ((get_set_ne (by omega)).trans ((get_set_ne (by omega)).trans ((get_set_ne (by omega)).trans ((get_set_ne (by omega)).trans ((get_set_ne (by omega)).trans ((get_set_ne (by omega)).trans ((get_set_ne (by omega)).trans ((get_set_ne (by omega)).trans ((get_set_ne (by omega)).trans (get_set (sz (sz ((by omega)))))))))))))))), (get_set_ne (by omega)).trans ((get_set_ne (by omega)).trans ((get_set_ne (by omega)).trans ((get_set_ne (by omega)).trans ((get_set_ne (by omega)).trans ((get_set_ne (by omega)).trans ((get_set_ne (by omega)).trans ((get_set_ne (by omega)).trans ((get_set_ne (by omega)).trans ((get_set_ne (by omega)).trans ((get_set_ne (by omega)).trans (get_set (sz (sz (sz ((by omega)))))))))))))))), (get_set_ne (by omega)).trans ((get_set_ne (by omega)).trans ((get_set_ne (by omega)).trans ((get_set_ne (by omega)).trans ((get_set_ne (by omega)).trans ((get_set_ne (by omega)).trans ((get_set_ne (by omega)).trans ((get_set_ne (by omega)).trans ((get_set_ne (by omega)).trans ((get_set_ne (by omega)).trans (get_set (sz (sz (sz (sz ((by omega)))))))))))))))), (get_set_ne (by omega)).trans ((get_set_ne (by omega)).trans ((get_set_ne (by omega)).trans ((get_set_ne (by omega)).trans ((get_set_ne (by omega)).trans ((get_set_ne (by omega)).trans ((get_set_ne (by omega)).trans ((get_set_ne (by omega)).trans ((get_set_ne (by omega)).trans (get_set (sz (sz (sz (sz (sz ((by omega)))))))))))))))), (get_set_ne (by omega)).trans ((get_set_ne (by omega)).trans ((get_set_ne (by omega)).trans ((get_set_ne (by omega)).trans ((get_set_ne (by omega)).trans ((get_set_ne (by omega)).trans ((get_set_ne (by omega)).trans ((get_set_ne (by omega)).trans (get_set (sz (sz (sz (sz (sz (sz ((by omega)))))))))))))))), (get_set_ne (by omega)).trans ((get_set_ne (by omega)).trans ((get_set_ne (by omega)).trans ((get_set_ne (by omega)).trans ((get_set_ne (by omega)).trans ((get_set_ne (by omega)).trans ((get_set_ne (by omega)).trans (get_set (sz (sz (sz (sz (sz (sz (sz ((by omega)))))))))))))))), (get_set_ne (by omega)).trans ((get_set_ne (by omega)).trans ((get_set_ne (by omega)).trans ((get_set_ne (by omega)).trans ((get_set_ne (by omega)).trans ((get_set_ne (by omega)).trans (get_set (sz (sz (sz (sz (sz (sz (sz (sz ((by omega)))))))))))))))), (get_set_ne (by omega)).trans ((get_set_ne (by omega)).trans ((get_set_ne (by omega)).trans ((get_set_ne (by omega)).trans ((get_set_ne (by omega)).trans (get_set (sz (sz (sz (sz (sz (sz (sz (sz (sz ((by omega)))))))))))))))), (get_set_ne (by omega)).trans ((get_set_ne (by omega)).trans ((get_set_ne (by omega)).trans ((get_set_ne (by omega)).trans (get_set (sz (sz (sz (sz (sz (sz (sz (sz (sz (sz ((by omega)))))))))))))))), (get_set_ne (by omega)).trans ((get_set_ne (by omega)).trans ((get_set_ne (by omega)).trans (get_set (sz (sz (sz (sz (sz (sz (sz (sz (sz (sz (sz ((by omega)))))))))))))))), (get_set_ne (by omega)).trans ((get_set_ne (by omega)).trans (get_set (sz (sz (sz (sz (sz (sz (sz (sz (sz (sz (sz (sz ((by omega)))))))))))))))), (get_set_ne (by omega)).trans (get_set (sz (sz (sz (sz (sz (sz (sz (sz (sz (sz (sz (sz (sz ((by omega)))))))))))))))), get_set (sz (sz (sz (sz (sz (sz (sz (sz (sz (sz (sz (sz (sz (sz ((by omega))))))))))))))))⟩, ?_⟩
  iterate 15 (refine Same.trans ?_ (Same.set _ _ (by omega)))
  exact Same.refl _ _ _
theorem ReAt.put_free {c : Array Value} {o : Nat} {K : Cf} {m : Re} (h : ReAt c o K m) {L s : Nat} (hh : K.hd s = L) : ReAt (((((((((((((((c.setIfInBounds (o + 10) (.bool false)).setIfInBounds (o + 10 + 1) (.bool false)).setIfInBounds (o + 10 + 2) (.int .i64 (L : Nat))).setIfInBounds (o + 10 + 3) (.int .i64 K.g)).setIfInBounds (o + 10 + 4) (.int .i64 (K.S : Nat))).setIfInBounds (o + 10 + 5) (.int .i64 K.a)).setIfInBounds (o + 10 + 6) (.int .i64 (K.C : Nat))).setIfInBounds (o + 10 + 7) (.int .i64 (K.D : Nat))).setIfInBounds (o + 10 + 8) (.int .i64 K.g)).setIfInBounds (o + 10 + 9) (.int .i64 K.k)).setIfInBounds (o + 10 + 10) (.int .i64 (s : Nat))).setIfInBounds (o + 10 + 11) (.int .i64 0)).setIfInBounds (o + 10 + 12) (.int .u64 0)).setIfInBounds (o + 10 + 13) (.int .i64 0)).setIfInBounds (o + 10 + 14) (.int .u64 0)) o K { m with f := fr0 s } ∧ Same c (((((((((((((((c.setIfInBounds (o + 10) (.bool false)).setIfInBounds (o + 10 + 1) (.bool false)).setIfInBounds (o + 10 + 2) (.int .i64 (L : Nat))).setIfInBounds (o + 10 + 3) (.int .i64 K.g)).setIfInBounds (o + 10 + 4) (.int .i64 (K.S : Nat))).setIfInBounds (o + 10 + 5) (.int .i64 K.a)).setIfInBounds (o + 10 + 6) (.int .i64 (K.C : Nat))).setIfInBounds (o + 10 + 7) (.int .i64 (K.D : Nat))).setIfInBounds (o + 10 + 8) (.int .i64 K.g)).setIfInBounds (o + 10 + 9) (.int .i64 K.k)).setIfInBounds (o + 10 + 10) (.int .i64 (s : Nat))).setIfInBounds (o + 10 + 11) (.int .i64 0)).setIfInBounds (o + 10 + 12) (.int .u64 0)).setIfInBounds (o + 10 + 13) (.int .i64 0)).setIfInBounds (o + 10 + 14) (.int .u64 0)) o (o + 24) := by
  obtain ⟨⟨q0, q1, q2, q3, q4, q5, q6, q7, q8, q9, q10, q11, q12, q13, q14⟩, sm⟩ := put15 (o := o + 10) (c := c) h.ty.lt (.bool false) (.bool false) (.int .i64 (L : Nat)) (.int .i64 K.g) (.int .i64 (K.S : Nat)) (.int .i64 K.a) (.int .i64 (K.C : Nat)) (.int .i64 (K.D : Nat)) (.int .i64 K.g) (.int .i64 K.k) (.int .i64 (s : Nat)) (.int .i64 0) (.int .u64 0) (.int .i64 0) (.int .u64 0)
  have fr : FrAt (((((((((((((((c.setIfInBounds (o + 10) (.bool false)).setIfInBounds (o + 10 + 1) (.bool false)).setIfInBounds (o + 10 + 2) (.int .i64 (L : Nat))).setIfInBounds (o + 10 + 3) (.int .i64 K.g)).setIfInBounds (o + 10 + 4) (.int .i64 (K.S : Nat))).setIfInBounds (o + 10 + 5) (.int .i64 K.a)).setIfInBounds (o + 10 + 6) (.int .i64 (K.C : Nat))).setIfInBounds (o + 10 + 7) (.int .i64 (K.D : Nat))).setIfInBounds (o + 10 + 8) (.int .i64 K.g)).setIfInBounds (o + 10 + 9) (.int .i64 K.k)).setIfInBounds (o + 10 + 10) (.int .i64 (s : Nat))).setIfInBounds (o + 10 + 11) (.int .i64 0)).setIfInBounds (o + 10 + 12) (.int .u64 0)).setIfInBounds (o + 10 + 13) (.int .i64 0)).setIfInBounds (o + 10 + 14) (.int .u64 0)) (o + 10) K (fr0 s) := ⟨q0, q1, by rw [← hh] at q2 ⊢; exact q2, q3, ⟨q4, q5, q6, q7, q8, q9, q10, q11, q12⟩, q13, q14⟩
  exact ⟨⟨(sm.out _ (by omega)).trans h.back, (sm.out _ (by omega)).trans h.gone, (sm.out _ (by omega)).trans h.k0, (sm.out _ (by omega)).trans h.k1, (sm.out _ (by omega)).trans h.k2, (sm.out _ (by omega)).trans h.k3, (sm.out _ (by omega)).trans h.k4, (sm.out _ (by omega)).trans h.k5, (sm.out _ (by omega)).trans h.pc, (sm.out _ (by omega)).trans h.sl, fr.tys, fun _ => fr⟩, sm.mono (by omega) (by omega)⟩
theorem ReAt.put_free2 {c : Array Value} {o : Nat} {K : Cf} {m : Re} (h : ReAt c o K m) {L s : Nat} (hh : K.hd s = L) : ReAt ((((((((((((((((c.setIfInBounds (o + 10) (.bool false)).setIfInBounds (o + 10 + 1) (.bool false)).setIfInBounds (o + 10 + 2) (.int .i64 (L : Nat))).setIfInBounds (o + 10 + 3) (.int .i64 K.g)).setIfInBounds (o + 10 + 4) (.int .i64 (K.S : Nat))).setIfInBounds (o + 10 + 5) (.int .i64 K.a)).setIfInBounds (o + 10 + 6) (.int .i64 (K.C : Nat))).setIfInBounds (o + 10 + 7) (.int .i64 (K.D : Nat))).setIfInBounds (o + 10 + 8) (.int .i64 K.g)).setIfInBounds (o + 10 + 9) (.int .i64 K.k)).setIfInBounds (o + 10 + 10) (.int .i64 (s : Nat))).setIfInBounds (o + 10 + 11) (.int .i64 0)).setIfInBounds (o + 10 + 12) (.int .u64 0)).setIfInBounds (o + 10 + 13) (.int .i64 0)).setIfInBounds (o + 10 + 14) (.int .u64 0)).setIfInBounds (o + 8) (.int .i64 1)) o K { m with f := fr0 s, pc := 1 } := by
  have n := (h.put_free hh).1
  obtain ⟨⟨q0, q1, q2, q3, q4, q5, q6, q7, q8, q9, q10, q11, q12, q13, q14⟩, sm⟩ := put15 (o := o + 10) (c := c) h.ty.lt (.bool false) (.bool false) (.int .i64 (L : Nat)) (.int .i64 K.g) (.int .i64 (K.S : Nat)) (.int .i64 K.a) (.int .i64 (K.C : Nat)) (.int .i64 (K.D : Nat)) (.int .i64 K.g) (.int .i64 K.k) (.int .i64 (s : Nat)) (.int .i64 0) (.int .u64 0) (.int .i64 0) (.int .u64 0)
  have fr : FrAt (((((((((((((((c.setIfInBounds (o + 10) (.bool false)).setIfInBounds (o + 10 + 1) (.bool false)).setIfInBounds (o + 10 + 2) (.int .i64 (L : Nat))).setIfInBounds (o + 10 + 3) (.int .i64 K.g)).setIfInBounds (o + 10 + 4) (.int .i64 (K.S : Nat))).setIfInBounds (o + 10 + 5) (.int .i64 K.a)).setIfInBounds (o + 10 + 6) (.int .i64 (K.C : Nat))).setIfInBounds (o + 10 + 7) (.int .i64 (K.D : Nat))).setIfInBounds (o + 10 + 8) (.int .i64 K.g)).setIfInBounds (o + 10 + 9) (.int .i64 K.k)).setIfInBounds (o + 10 + 10) (.int .i64 (s : Nat))).setIfInBounds (o + 10 + 11) (.int .i64 0)).setIfInBounds (o + 10 + 12) (.int .u64 0)).setIfInBounds (o + 10 + 13) (.int .i64 0)).setIfInBounds (o + 10 + 14) (.int .u64 0)) (o + 10) K (fr0 s) := ⟨q0, q1, by rw [← hh] at q2 ⊢; exact q2, q3, ⟨q4, q5, q6, q7, q8, q9, q10, q11, q12⟩, q13, q14⟩
  exact n.put_pc 1 (fun _ => fr.same (Same.set _ (a := o + 8) (b := o + 8) _ (by omega)) (by omega))

theorem blk15 {w : World} {Q : Nat} {t : TypeId} {v0 v1 v2 v3 v4 v5 v6 v7 v8 v9 v10 v11 v12 v13 v14 : Value} (h : w.heap[Q]? = some (.cells #[v0, v1, v2, v3, v4, v5, v6, v7, v8, v9, v10, v11, v12, v13, v14] t (0, 0))) : w.cell? ⟨Q, 0, none⟩ = some v0 ∧ w.cell? ⟨Q, 1, none⟩ = some v1 ∧ w.cell? ⟨Q, 2, none⟩ = some v2 ∧ w.cell? ⟨Q, 3, none⟩ = some v3 ∧ w.cell? ⟨Q, 4, none⟩ = some v4 ∧ w.cell? ⟨Q, 5, none⟩ = some v5 ∧ w.cell? ⟨Q, 6, none⟩ = some v6 ∧ w.cell? ⟨Q, 7, none⟩ = some v7 ∧ w.cell? ⟨Q, 8, none⟩ = some v8 ∧ w.cell? ⟨Q, 9, none⟩ = some v9 ∧ w.cell? ⟨Q, 10, none⟩ = some v10 ∧ w.cell? ⟨Q, 11, none⟩ = some v11 ∧ w.cell? ⟨Q, 12, none⟩ = some v12 ∧ w.cell? ⟨Q, 13, none⟩ = some v13 ∧ w.cell? ⟨Q, 14, none⟩ = some v14 := by
  unfold World.cell?
  simp only [h]
  exact ⟨rfl, rfl, rfl, rfl, rfl, rfl, rfl, rfl, rfl, rfl, rfl, rfl, rfl, rfl, rfl⟩

set_option maxRecDepth 100000 in
set_option maxHeartbeats 8000000 in
theorem rload_yes {w : World} {M G N P o : Nat} {X : List Nat} {T : Int} {c : Array Value} {t : TypeId} {K : Cf} {m : Re} (is : InA w w M G N X T P c t) (hm : ReAt c o K m) (hT : T + 1 < 4611686018427387904) {L s : Nat} (hL : L < N) (hs : m.sl = s) (hh : K.hd s = L) (hk : kdW (X.getD L 0) = 3)
    (c1 : ∀ w, Calls Tryd.prog 47 #[.agg (cs K.S K.a K.C K.D K.g K.k), .int .i64 (s : Nat)] w fun e w' => e = .returned (.int .i64 (L : Nat)) ∧ Below w.heap.size w w')
    (c4 : ∀ w, Calls Tryd.prog 53 #[.agg (cs K.S K.a K.C K.D K.g K.k), .int .i64 (s : Nat)] w fun e w' => ∃ P, e = .returned (.pointer (some ⟨P, 0, none⟩)) ∧ NewBlk w w' P #[.bool false, .bool false, .int .i64 (L : Nat), .int .i64 K.g, .int .i64 (K.S : Nat), .int .i64 K.a, .int .i64 (K.C : Nat), .int .i64 (K.D : Nat), .int .i64 K.g, .int .i64 K.k, .int .i64 (s : Nat), .int .i64 0, .int .u64 0, .int .i64 0, .int .u64 0] 61) :
    Calls Tryd.prog 40 #[.pointer (some ⟨P, o, none⟩), .pointer (some ⟨M, 0, none⟩)] w fun r w' => r = .returned (.tuple #[]) ∧ ∃ c', InA w w' M G N X (T + 1) P c' t ∧ ReAt c' o K { m with f := fr0 s, pc := 1 } ∧ Same c c' o (o + 24) := by
  have htb := is.tb
  have hlen := is.len
  obtain ⟨v, hv⟩ : ∃ v, X.getD L 0 = v := ⟨_, rfl⟩
  have hv64 := is.mem.fits L
  rw [hv] at hv64 hk
  have c0 : ∀ wr, InA w wr M G N X T P c t → Calls Tryd.prog 46 #[.pointer (some ⟨M, 0, none⟩), .int .i64 (L : Nat)] wr fun e w' => e = .returned (.int .u64 (v : Nat)) ∧ InA w w' M G N X (T + 1) P c t ∧ Only M G wr w' := fun wr x =>
    (loadX x.mem (by rw [hlen]; exact hL) htb hv).mono fun e w' ⟨h1, h2, h3⟩ => ⟨h1, x.only h2 h3 hlen (by omega), h3⟩
  obtain ⟨m', g', a', n', s', z', c3⟩ := unpack_kind v hv64
  have hrc : ∀ wr X T, InA w wr M G N X T P c t → _ := fun wr X T x => hm.rd x
  rw [hs] at hrc
  have hty : ∃ z0 z1 z2 z3 z4 z5 z6 z7 z8 z9 z10 z11 z12 z13 z14, ∀ wr X T, InA w wr M G N X T P c t → (∀ i, wr.frozen? ⟨P, i, none⟩ = false) ∧ wr.cell? ⟨P, o + 10, none⟩ = some (.bool z0) ∧ wr.cell? ⟨P, o + 10 + 1, none⟩ = some (.bool z1) ∧ wr.cell? ⟨P, o + 10 + 2, none⟩ = some (.int .i64 z2) ∧ wr.cell? ⟨P, o + 10 + 3, none⟩ = some (.int .i64 z3) ∧ wr.cell? ⟨P, o + 10 + 4, none⟩ = some (.int .i64 z4) ∧ wr.cell? ⟨P, o + 10 + 5, none⟩ = some (.int .i64 z5) ∧ wr.cell? ⟨P, o + 10 + 6, none⟩ = some (.int .i64 z6) ∧ wr.cell? ⟨P, o + 10 + 7, none⟩ = some (.int .i64 z7) ∧ wr.cell? ⟨P, o + 10 + 8, none⟩ = some (.int .i64 z8) ∧ wr.cell? ⟨P, o + 10 + 9, none⟩ = some (.int .i64 z9) ∧ wr.cell? ⟨P, o + 10 + 10, none⟩ = some (.int .i64 z10) ∧ wr.cell? ⟨P, o + 10 + 11, none⟩ = some (.int .i64 z11) ∧ wr.cell? ⟨P, o + 10 + 12, none⟩ = some (.int .u64 z12) ∧ wr.cell? ⟨P, o + 10 + 13, none⟩ = some (.int .i64 z13) ∧ wr.cell? ⟨P, o + 10 + 14, none⟩ = some (.int .u64 z14) := by
    obtain ⟨z0, z1, z2, z3, z4, z5, z6, z7, z8, z9, z10, z11, z12, z13, z14, h⟩ := hm.ty
    exact ⟨z0, z1, z2, z3, z4, z5, z6, z7, z8, z9, z10, z11, z12, z13, z14, fun wr X T x => ⟨x.free, x.cell h.c0, x.cell h.c1, x.cell h.c2, x.cell h.c3, x.cell h.c4, x.cell h.c5, x.cell h.c6, x.cell h.c7, x.cell h.c8, x.cell h.c9, x.cell h.c10, x.cell h.c11, x.cell h.c12, x.cell h.c13, x.cell h.c14⟩⟩
  obtain ⟨z0, z1, z2, z3, z4, z5, z6, z7, z8, z9, z10, z11, z12, z13, z14, hty⟩ := hty
  obtain ⟨n0, n9⟩ := hm.put_free hh
  have n1 := hm.put_free2 hh
  have hr2 : ∀ wr X T, InA w wr M G N X T P (((((((((((((((c.setIfInBounds (o + 10) (.bool false)).setIfInBounds (o + 10 + 1) (.bool false)).setIfInBounds (o + 10 + 2) (.int .i64 (L : Nat))).setIfInBounds (o + 10 + 3) (.int .i64 K.g)).setIfInBounds (o + 10 + 4) (.int .i64 (K.S : Nat))).setIfInBounds (o + 10 + 5) (.int .i64 K.a)).setIfInBounds (o + 10 + 6) (.int .i64 (K.C : Nat))).setIfInBounds (o + 10 + 7) (.int .i64 (K.D : Nat))).setIfInBounds (o + 10 + 8) (.int .i64 K.g)).setIfInBounds (o + 10 + 9) (.int .i64 K.k)).setIfInBounds (o + 10 + 10) (.int .i64 (s : Nat))).setIfInBounds (o + 10 + 11) (.int .i64 0)).setIfInBounds (o + 10 + 12) (.int .u64 0)).setIfInBounds (o + 10 + 13) (.int .i64 0)).setIfInBounds (o + 10 + 14) (.int .u64 0)) t → _ := fun wr X T x => n0.rd x
  simp only [hs] at hr2
  have hp : ∀ wr X T, InA w wr M G N X T P c t → InA w (((((((((((((((wr.setCell ⟨P, o + 10, none⟩ (.bool false)).setCell ⟨P, o + 10 + 1, none⟩ (.bool false)).setCell ⟨P, o + 10 + 2, none⟩ (.int .i64 (L : Nat))).setCell ⟨P, o + 10 + 3, none⟩ (.int .i64 K.g)).setCell ⟨P, o + 10 + 4, none⟩ (.int .i64 (K.S : Nat))).setCell ⟨P, o + 10 + 5, none⟩ (.int .i64 K.a)).setCell ⟨P, o + 10 + 6, none⟩ (.int .i64 (K.C : Nat))).setCell ⟨P, o + 10 + 7, none⟩ (.int .i64 (K.D : Nat))).setCell ⟨P, o + 10 + 8, none⟩ (.int .i64 K.g)).setCell ⟨P, o + 10 + 9, none⟩ (.int .i64 K.k)).setCell ⟨P, o + 10 + 10, none⟩ (.int .i64 (s : Nat))).setCell ⟨P, o + 10 + 11, none⟩ (.int .i64 0)).setCell ⟨P, o + 10 + 12, none⟩ (.int .u64 0)).setCell ⟨P, o + 10 + 13, none⟩ (.int .i64 0)).setCell ⟨P, o + 10 + 14, none⟩ (.int .u64 0)) M G N X T P (((((((((((((((c.setIfInBounds (o + 10) (.bool false)).setIfInBounds (o + 10 + 1) (.bool false)).setIfInBounds (o + 10 + 2) (.int .i64 (L : Nat))).setIfInBounds (o + 10 + 3) (.int .i64 K.g)).setIfInBounds (o + 10 + 4) (.int .i64 (K.S : Nat))).setIfInBounds (o + 10 + 5) (.int .i64 K.a)).setIfInBounds (o + 10 + 6) (.int .i64 (K.C : Nat))).setIfInBounds (o + 10 + 7) (.int .i64 (K.D : Nat))).setIfInBounds (o + 10 + 8) (.int .i64 K.g)).setIfInBounds (o + 10 + 9) (.int .i64 K.k)).setIfInBounds (o + 10 + 10) (.int .i64 (s : Nat))).setIfInBounds (o + 10 + 11) (.int .i64 0)).setIfInBounds (o + 10 + 12) (.int .u64 0)).setIfInBounds (o + 10 + 13) (.int .i64 0)).setIfInBounds (o + 10 + 14) (.int .u64 0)) t := fun wr X T x => ((((((((((((((x.set (o + 10) (.bool false)).set (o + 10 + 1) (.bool false)).set (o + 10 + 2) (.int .i64 (L : Nat))).set (o + 10 + 3) (.int .i64 K.g)).set (o + 10 + 4) (.int .i64 (K.S : Nat))).set (o + 10 + 5) (.int .i64 K.a)).set (o + 10 + 6) (.int .i64 (K.C : Nat))).set (o + 10 + 7) (.int .i64 (K.D : Nat))).set (o + 10 + 8) (.int .i64 K.g)).set (o + 10 + 9) (.int .i64 K.k)).set (o + 10 + 10) (.int .i64 (s : Nat))).set (o + 10 + 11) (.int .i64 0)).set (o + 10 + 12) (.int .u64 0)).set (o + 10 + 13) (.int .i64 0)).set (o + 10 + 14) (.int .u64 0)
  have HP : Hid (∀ wr X T, InA w wr M G N X T P c t → _) := hp
  have HR : Hid (∀ wr X T, InA w wr M G N X T P (((((((((((((((c.setIfInBounds (o + 10) (.bool false)).setIfInBounds (o + 10 + 1) (.bool false)).setIfInBounds (o + 10 + 2) (.int .i64 (L : Nat))).setIfInBounds (o + 10 + 3) (.int .i64 K.g)).setIfInBounds (o + 10 + 4) (.int .i64 (K.S : Nat))).setIfInBounds (o + 10 + 5) (.int .i64 K.a)).setIfInBounds (o + 10 + 6) (.int .i64 (K.C : Nat))).setIfInBounds (o + 10 + 7) (.int .i64 (K.D : Nat))).setIfInBounds (o + 10 + 8) (.int .i64 K.g)).setIfInBounds (o + 10 + 9) (.int .i64 K.k)).setIfInBounds (o + 10 + 10) (.int .i64 (s : Nat))).setIfInBounds (o + 10 + 11) (.int .i64 0)).setIfInBounds (o + 10 + 12) (.int .u64 0)).setIfInBounds (o + 10 + 13) (.int .i64 0)).setIfInBounds (o + 10 + 14) (.int .u64 0)) t → _) := hr2
  have N1 : Hid _ := n0
  have N2 : Hid _ := n1
  have N3 : Hid (Same c ((((((((((((((((c.setIfInBounds (o + 10) (.bool false)).setIfInBounds (o + 10 + 1) (.bool false)).setIfInBounds (o + 10 + 2) (.int .i64 (L : Nat))).setIfInBounds (o + 10 + 3) (.int .i64 K.g)).setIfInBounds (o + 10 + 4) (.int .i64 (K.S : Nat))).setIfInBounds (o + 10 + 5) (.int .i64 K.a)).setIfInBounds (o + 10 + 6) (.int .i64 (K.C : Nat))).setIfInBounds (o + 10 + 7) (.int .i64 (K.D : Nat))).setIfInBounds (o + 10 + 8) (.int .i64 K.g)).setIfInBounds (o + 10 + 9) (.int .i64 K.k)).setIfInBounds (o + 10 + 10) (.int .i64 (s : Nat))).setIfInBounds (o + 10 + 11) (.int .i64 0)).setIfInBounds (o + 10 + 12) (.int .u64 0)).setIfInBounds (o + 10 + 13) (.int .i64 0)).setIfInBounds (o + 10 + 14) (.int .u64 0)).setIfInBounds (o + 8) (.int .i64 1)) o (o + 24)) := n9.trans (Same.set _ _ (by omega))
  clear hp hr2 n0 n1 n9
  have HC : Hid (∀ wr X T, InA w wr M G N X T P c t → _) := hrc
  have HT : Hid (∀ wr X T, InA w wr M G N X T P c t → _) := hty
  have hPl := lt_of_block is.blk
  have hML := is.mem.lt
  clear hL hs hv hv64 hrc hty
  have c3' : ∀ w, WT w → Calls Tryd.prog 51 #[.int .u64 (v : Nat)] w fun e w' => e = .returned (.tuple #[.agg #[.int .i64 3, .int .i64 m', .bool g', .int .i64 a', .int .i64 n', .int .i64 s'], .bool z']) ∧ Below w.heap.size w w' := fun w hw => by have h := c3 w hw; rw [hk] at h; exact h
  clear c3 hk
  have c3 := c3'
  clear c3'
  clear hm hh
  unfold cs at *
  go_enter Tryd.func40, Tryd.ntmps40
  go_upto_region 0 with fail
  have is0 := is
  have hws : Hid (0 < w.heap.size) := show 0 < w.heap.size by omega
  replace is := is.drew
  have hS0 := HC.out _ _ _ is
  refine wp_region_held_drew (S := fun wr => wr.cell? ⟨P, o + 2, none⟩ = some (.int .i64 (K.S : Nat)) ∧ wr.cell? ⟨P, o + 2 + 1, none⟩ = some (.int .i64 K.a) ∧ wr.cell? ⟨P, o + 2 + 2, none⟩ = some (.int .i64 (K.C : Nat)) ∧ wr.cell? ⟨P, o + 2 + 3, none⟩ = some (.int .i64 (K.D : Nat)) ∧ wr.cell? ⟨P, o + 2 + 4, none⟩ = some (.int .i64 K.g) ∧ wr.cell? ⟨P, o + 2 + 5, none⟩ = some (.int .i64 K.k) ∧ wr.cell? ⟨P, o + 9, none⟩ = some (.int .i64 (s : Nat))) (by kernel_rfl) hS0 (fun hS1 => ?_)
  clear hS0
  refine wpAnyH_take (i := 0) (oi := { dst := some 7, op := Go.Op.move (Go.Operand.tmp 1), type := 30, pos := "sweep.go:118", after := #[], guard := none }) (v := .pointer (some ⟨M, 0, none⟩)) rfl (by kernel_rfl) (by kernel_rfl) (by kernel_rfl) (fun _ _ _ h => h) (Or.inl ⟨by rfl, fun w hSw => by (try dsimp only at hSw); go_simp⟩) hS1 ?_
  simp only [Act.put, List.setIfInBounds_toArray, List.set_cons_zero, List.set_cons_succ]
  refine wpAnyH_take (i := 1) (oi := { dst := some 8, op := Go.Op.move (Go.Operand.tmp 0), type := 52, pos := "sweep.go:118", after := #[], guard := none }) (v := .pointer (some ⟨P, o, none⟩)) rfl (by kernel_rfl) (by kernel_rfl) (by kernel_rfl) (fun _ _ _ h => h) (Or.inl ⟨by rfl, fun w hSw => by (try dsimp only at hSw); go_simp⟩) hS1 ?_
  simp only [Act.put, List.setIfInBounds_toArray, List.set_cons_zero, List.set_cons_succ]
  refine wpAnyH_take (i := 2) (oi := { dst := some 9, op := Go.Op.nilCheck (Go.Operand.tmp 8), type := 0, pos := "sweep.go:118", after := #[{ on := 1, ground := Go.Ground.data }], guard := none }) (v := .pointer (some ⟨P, o, none⟩)) rfl (by kernel_rfl) (by kernel_rfl) (by kernel_rfl) (fun _ _ _ h => h) (Or.inl ⟨by rfl, fun w hSw => by (try dsimp only at hSw); go_simp⟩) hS1 ?_
  simp only [Act.put, List.setIfInBounds_toArray, List.set_cons_zero, List.set_cons_succ]
  refine wpAnyH_take (i := 3) (oi := { dst := some 10, op := Go.Op.fieldAddr 63 (Go.Operand.tmp 9) 2, type := 0, pos := "sweep.go:118", after := #[{ on := 2, ground := Go.Ground.data }], guard := none }) (v := .pointer (some ⟨P, o + 2, none⟩)) rfl (by kernel_rfl) (by kernel_rfl) (by kernel_rfl) (fun _ _ _ h => h) (Or.inl ⟨by rfl, fun w hSw => by (try dsimp only at hSw); go_simp⟩) hS1 ?_
  simp only [Act.put, List.setIfInBounds_toArray, List.set_cons_zero, List.set_cons_succ]
  refine wpAnyH_take (i := 4) (oi := { dst := some 11, op := Go.Op.load 23 (Go.Operand.tmp 10), type := 23, pos := "sweep.go:118", after := #[{ on := 3, ground := Go.Ground.data }], guard := none }) (v := .agg #[.int .i64 (K.S : Nat), .int .i64 K.a, .int .i64 (K.C : Nat), .int .i64 (K.D : Nat), .int .i64 K.g, .int .i64 K.k]) rfl (by kernel_rfl) (by kernel_rfl) (by kernel_rfl) (fun _ _ _ h => h) (Or.inl ⟨by rfl, fun w hSw => by (try dsimp only at hSw); go_simp⟩) hS1 ?_
  simp only [Act.put, List.setIfInBounds_toArray, List.set_cons_zero, List.set_cons_succ]
  refine wpAnyH_take (i := 5) (oi := { dst := some 12, op := Go.Op.move (Go.Operand.tmp 0), type := 52, pos := "sweep.go:118", after := #[], guard := none }) (v := .pointer (some ⟨P, o, none⟩)) rfl (by kernel_rfl) (by kernel_rfl) (by kernel_rfl) (fun _ _ _ h => h) (Or.inl ⟨by rfl, fun w hSw => by (try dsimp only at hSw); go_simp⟩) hS1 ?_
  simp only [Act.put, List.setIfInBounds_toArray, List.set_cons_zero, List.set_cons_succ]
  refine wpAnyH_take (i := 6) (oi := { dst := some 13, op := Go.Op.nilCheck (Go.Operand.tmp 12), type := 0, pos := "sweep.go:118", after := #[{ on := 5, ground := Go.Ground.data }], guard := none }) (v := .pointer (some ⟨P, o, none⟩)) rfl (by kernel_rfl) (by kernel_rfl) (by kernel_rfl) (fun _ _ _ h => h) (Or.inl ⟨by rfl, fun w hSw => by (try dsimp only at hSw); go_simp⟩) hS1 ?_
  simp only [Act.put, List.setIfInBounds_toArray, List.set_cons_zero, List.set_cons_succ]
  refine wpAnyH_take (i := 7) (oi := { dst := some 14, op := Go.Op.fieldAddr 63 (Go.Operand.tmp 13) 4, type := 0, pos := "sweep.go:118", after := #[{ on := 6, ground := Go.Ground.data }], guard := none }) (v := .pointer (some ⟨P, o + 9, none⟩)) rfl (by kernel_rfl) (by kernel_rfl) (by kernel_rfl) (fun _ _ _ h => h) (Or.inl ⟨by rfl, fun w hSw => by (try dsimp only at hSw); go_simp⟩) hS1 ?_
  simp only [Act.put, List.setIfInBounds_toArray, List.set_cons_zero, List.set_cons_succ]
  refine wpAnyH_take (i := 8) (oi := { dst := some 15, op := Go.Op.load 3 (Go.Operand.tmp 14), type := 3, pos := "sweep.go:118", after := #[{ on := 7, ground := Go.Ground.data }], guard := none }) (v := .int .i64 (s : Nat)) rfl (by kernel_rfl) (by kernel_rfl) (by kernel_rfl) (fun _ _ _ h => h) (Or.inl ⟨by rfl, fun w hSw => by (try dsimp only at hSw); go_simp⟩) hS1 ?_
  simp only [Act.put, List.setIfInBounds_toArray, List.set_cons_zero, List.set_cons_succ]
  refine wpAnyH_ready (rs := [9, 15]) (by kernel_rfl) (by simp) (AllReadyH.cons (o := { dst := some 16, op := Go.Op.call { callee := Go.Callee.value (Go.Operand.func 47), args := #[Go.Operand.tmp 11, Go.Operand.tmp 15], argTypes := #[23, 3] }, type := 3, pos := "sweep.go:118", after := #[{ on := 4, ground := Go.Ground.data }, { on := 8, ground := Go.Ground.data }], guard := none }) rfl (fun K hK => ?_) (AllReadyH.cons (o := { dst := some 4, op := Go.Op.alloc 43, type := 0, pos := "sweep.go:118", after := #[], guard := none }) rfl (fun K hK => ?_) AllReadyH.nil))
  · go_simp
    go_at_call 47
    with_reducible refine (c1 _).mono ?_
    rintro e w4 ⟨rfl, b⟩
    (try simp only [])
    replace is := is.below b
    clear b
    refine hK.out _ _ (HC.out _ _ _ is) (fun hS1 => ?_)
    (try simp only [Act.put, List.setIfInBounds_toArray, List.set_cons_zero, List.set_cons_succ])
    clear hK K
    refine wpAnyH_ready (rs := [10, 15]) (by kernel_rfl) (by simp) (AllReadyH.cons (o := { dst := some 17, op := Go.Op.call { callee := Go.Callee.value (Go.Operand.func 46), args := #[Go.Operand.tmp 7, Go.Operand.tmp 16], argTypes := #[30, 3] }, type := 25, pos := "sweep.go:118", after := #[{ on := 0, ground := Go.Ground.data }, { on := 9, ground := Go.Ground.data }, { on := 9, ground := Go.Ground.chain }], guard := none }) rfl (fun K hK => ?_) (AllReadyH.cons (o := { dst := some 4, op := Go.Op.alloc 43, type := 0, pos := "sweep.go:118", after := #[], guard := none }) rfl (fun K hK => ?_) AllReadyH.nil))
    · go_simp
      go_at_call 46
      with_reducible refine (c0 _ is).mono ?_
      rintro e w5 ⟨rfl, i1, ho⟩
      (try simp only [])
      clear is
      have is := i1
      clear i1
      clear ho
      refine hK.out _ _ (HC.out _ _ _ is) (fun hS1 => ?_)
      (try simp only [Act.put, List.setIfInBounds_toArray, List.set_cons_zero, List.set_cons_succ])
      clear hK K
      refine wpAnyH_ready (rs := [11, 15]) (by kernel_rfl) (by simp) (AllReadyH.cons (o := { dst := some 18, op := Go.Op.call { callee := Go.Callee.value (Go.Operand.func 51), args := #[Go.Operand.tmp 17], argTypes := #[25] }, type := 44, pos := "sweep.go:118", after := #[{ on := 10, ground := Go.Ground.data }, { on := 10, ground := Go.Ground.chain }], guard := none }) rfl (fun K hK => ?_) (AllReadyH.cons (o := { dst := some 4, op := Go.Op.alloc 43, type := 0, pos := "sweep.go:118", after := #[], guard := none }) rfl (fun K hK => ?_) AllReadyH.nil))
      · go_simp
        go_at_call 51
        with_reducible refine (c3 _ is.wt).mono ?_
        rintro e w6 ⟨rfl, b⟩
        (try simp only [])
        replace is := is.below b
        clear b
        refine hK.out _ _ (HC.out _ _ _ is) (fun hS1 => ?_)
        (try simp only [Act.put, List.setIfInBounds_toArray, List.set_cons_zero, List.set_cons_succ])
        clear hK K
        refine wpAnyH_take (i := 12) (oi := { dst := some 6, op := Go.Op.move (Go.Operand.tmp 18), type := 44, pos := "sweep.go:118", after := #[{ on := 11, ground := Go.Ground.data }], guard := none }) (v := .tuple #[.agg #[.int .i64 3, .int .i64 m', .bool g', .int .i64 a', .int .i64 n', .int .i64 s'], .bool z']) rfl (by kernel_rfl) (by kernel_rfl) (by kernel_rfl) (fun _ _ _ h => h) (Or.inl ⟨by rfl, fun w hSw => by (try dsimp only at hSw); go_simp⟩) hS1 ?_
        simp only [Act.put, List.setIfInBounds_toArray, List.set_cons_zero, List.set_cons_succ]
        refine wpAnyH_take (i := 13) (oi := { dst := some 19, op := Go.Op.extract (Go.Operand.tmp 6) 0, type := 43, pos := "sweep.go:118", after := #[{ on := 12, ground := Go.Ground.data }], guard := none }) (v := .agg #[.int .i64 3, .int .i64 m', .bool g', .int .i64 a', .int .i64 n', .int .i64 s']) rfl (by kernel_rfl) (by kernel_rfl) (by kernel_rfl) (fun _ _ _ h => h) (Or.inl ⟨by rfl, fun w hSw => by (try dsimp only at hSw); go_simp⟩) hS1 ?_
        simp only [Act.put, List.setIfInBounds_toArray, List.set_cons_zero, List.set_cons_succ]
        refine wpAnyH_take (i := 14) (oi := { dst := some 20, op := Go.Op.extract (Go.Operand.tmp 6) 1, type := 4, pos := "sweep.go:118", after := #[{ on := 12, ground := Go.Ground.data }, { on := 16, ground := Go.Ground.gcOnly Go.Departure.lateStores }], guard := none }) (v := .bool z') rfl (by kernel_rfl) (by kernel_rfl) (by kernel_rfl) (fun _ _ _ h => h) (Or.inl ⟨by rfl, fun w hSw => by (try dsimp only at hSw); go_simp⟩) hS1 ?_
        simp only [Act.put, List.setIfInBounds_toArray, List.set_cons_zero, List.set_cons_succ]
        refine wpAnyH_ready (rs := [15]) (by kernel_rfl) (by simp) (AllReadyH.cons (o := { dst := some 4, op := Go.Op.alloc 43, type := 0, pos := "sweep.go:118", after := #[], guard := none }) rfl (fun K hK => ?_) AllReadyH.nil)
        go_simp
        have hz : Hid _ := HdZ.ofNew is
        replace is := is.below (alloc_below _ (.cells #[.int .i64 0, .int .i64 0, .bool false, .int .i64 0, .int .i64 0, .int .i64 0] 43))
        refine hK.out _ _ (HC.out _ _ _ is) (fun hS1 => ?_)
        (try simp only [Act.put, List.setIfInBounds_toArray, List.set_cons_zero, List.set_cons_succ])
        clear hK K
        generalize w6.heap.size = R at hz ⊢
        generalize w6.alloc (.cells #[.int .i64 0, .int .i64 0, .bool false, .int .i64 0, .int .i64 0, .int .i64 0] 43) = wA at *
        refine wpAnyH_ready (rs := [16]) (by kernel_rfl) (by simp) (AllReadyH.cons (o := { dst := none, op := Go.Op.store 43 (Go.Operand.tmp 4) (Go.Operand.tmp 19), type := 0, pos := "sweep.go:118", after := #[{ on := 15, ground := Go.Ground.data }, { on := 13, ground := Go.Ground.data }, { on := 11, ground := Go.Ground.chain }, { on := 0, ground := Go.Ground.phase }, { on := 1, ground := Go.Ground.phase }, { on := 2, ground := Go.Ground.phase }, { on := 3, ground := Go.Ground.phase }, { on := 4, ground := Go.Ground.phase }, { on := 5, ground := Go.Ground.phase }, { on := 6, ground := Go.Ground.phase }, { on := 7, ground := Go.Ground.phase }, { on := 8, ground := Go.Ground.phase }, { on := 9, ground := Go.Ground.phase }, { on := 10, ground := Go.Ground.phase }, { on := 11, ground := Go.Ground.phase }, { on := 12, ground := Go.Ground.phase }, { on := 13, ground := Go.Ground.phase }, { on := 14, ground := Go.Ground.textOnly Go.Departure.lateStores }, { on := 15, ground := Go.Ground.phase }], guard := none }) rfl (fun K hK => ?_) AllReadyH.nil)
        obtain ⟨⟨q0, q1, q2, q3, q4, q5⟩, y⟩ := hz.out.cells
        have y0 := y 0
        have y1 := y 1
        have y2 := y 2
        have y3 := y 3
        have y4 := y 4
        have y5 := y 5
        clear y
        go_simp
        replace is := is.six hz.out hws.out (.int .i64 3) (.int .i64 m') (.bool g') (.int .i64 a') (.int .i64 n') (.int .i64 s')
        have hg0 := hz.out.got0 3 m' g' a' n' s'
        refine hK.out _ _ (HC.out _ _ _ is) (fun hS1 => ?_)
        (try simp only [Act.put, List.setIfInBounds_toArray, List.set_cons_zero, List.set_cons_succ])
        clear hK K q0 q1 q2 q3 q4 q5 y0 y1 y2 y3 y4 y5 hz
        refine wpAnyH_take (i := 17) (oi := { dst := some 5, op := Go.Op.assign (Go.Operand.tmp 20), type := 4, pos := "sweep.go:118", after := #[{ on := 14, ground := Go.Ground.data }, { on := 16, ground := Go.Ground.chain }, { on := 0, ground := Go.Ground.phase }, { on := 1, ground := Go.Ground.phase }, { on := 2, ground := Go.Ground.phase }, { on := 3, ground := Go.Ground.phase }, { on := 4, ground := Go.Ground.phase }, { on := 5, ground := Go.Ground.phase }, { on := 6, ground := Go.Ground.phase }, { on := 7, ground := Go.Ground.phase }, { on := 8, ground := Go.Ground.phase }, { on := 9, ground := Go.Ground.phase }, { on := 10, ground := Go.Ground.phase }, { on := 11, ground := Go.Ground.phase }, { on := 12, ground := Go.Ground.phase }, { on := 13, ground := Go.Ground.phase }, { on := 14, ground := Go.Ground.phase }, { on := 15, ground := Go.Ground.phase }, { on := 16, ground := Go.Ground.phase }], guard := none }) (v := .bool z') rfl (by kernel_rfl) (by kernel_rfl) (by kernel_rfl) (fun _ _ _ h => h) (Or.inl ⟨by rfl, fun w hSw => by (try dsimp only at hSw); go_simp⟩) hS1 ?_
        simp only [Act.put, List.setIfInBounds_toArray, List.set_cons_zero, List.set_cons_succ]
        refine wpAnyH_done (by kernel_rfl) ?_ _
        clear hS1
        generalize (((((((wA.setCell ⟨R, 0, none⟩ (.int .i64 3)).setCell ⟨R, 1, none⟩ (.int .i64 m')).setCell ⟨R, 2, none⟩ (.bool g')).setCell ⟨R, 3, none⟩ (.int .i64 a')).setCell ⟨R, 4, none⟩ (.int .i64 n')).setCell ⟨R, 5, none⟩ (.int .i64 s'))) = wf at *
        go_upto_region 3 with fail
        clear hg0
        replace is := is.drew
        have hS0 := HC.out _ _ _ is
        refine wp_region_held_drew (S := fun wr => wr.cell? ⟨P, o + 2, none⟩ = some (.int .i64 (K.S : Nat)) ∧ wr.cell? ⟨P, o + 2 + 1, none⟩ = some (.int .i64 K.a) ∧ wr.cell? ⟨P, o + 2 + 2, none⟩ = some (.int .i64 (K.C : Nat)) ∧ wr.cell? ⟨P, o + 2 + 3, none⟩ = some (.int .i64 (K.D : Nat)) ∧ wr.cell? ⟨P, o + 2 + 4, none⟩ = some (.int .i64 K.g) ∧ wr.cell? ⟨P, o + 2 + 5, none⟩ = some (.int .i64 K.k) ∧ wr.cell? ⟨P, o + 9, none⟩ = some (.int .i64 (s : Nat))) (by kernel_rfl) hS0 (fun hS1 => ?_)
        clear hS0
        refine wpAnyH_take (i := 0) (oi := { dst := some 26, op := Go.Op.move (Go.Operand.tmp 0), type := 52, pos := "sweep.go:123", after := #[], guard := none }) (v := .pointer (some ⟨P, o, none⟩)) rfl (by kernel_rfl) (by kernel_rfl) (by kernel_rfl) (fun _ _ _ h => h) (Or.inl ⟨by rfl, fun w hSw => by (try dsimp only at hSw); go_simp⟩) hS1 ?_
        simp only [Act.put, List.setIfInBounds_toArray, List.set_cons_zero, List.set_cons_succ]
        refine wpAnyH_take (i := 1) (oi := { dst := some 27, op := Go.Op.move (Go.Operand.tmp 0), type := 52, pos := "sweep.go:123", after := #[], guard := none }) (v := .pointer (some ⟨P, o, none⟩)) rfl (by kernel_rfl) (by kernel_rfl) (by kernel_rfl) (fun _ _ _ h => h) (Or.inl ⟨by rfl, fun w hSw => by (try dsimp only at hSw); go_simp⟩) hS1 ?_
        simp only [Act.put, List.setIfInBounds_toArray, List.set_cons_zero, List.set_cons_succ]
        refine wpAnyH_take (i := 2) (oi := { dst := some 28, op := Go.Op.nilCheck (Go.Operand.tmp 27), type := 0, pos := "sweep.go:123", after := #[{ on := 1, ground := Go.Ground.data }], guard := none }) (v := .pointer (some ⟨P, o, none⟩)) rfl (by kernel_rfl) (by kernel_rfl) (by kernel_rfl) (fun _ _ _ h => h) (Or.inl ⟨by rfl, fun w hSw => by (try dsimp only at hSw); go_simp⟩) hS1 ?_
        simp only [Act.put, List.setIfInBounds_toArray, List.set_cons_zero, List.set_cons_succ]
        refine wpAnyH_take (i := 3) (oi := { dst := some 29, op := Go.Op.fieldAddr 63 (Go.Operand.tmp 28) 2, type := 0, pos := "sweep.go:123", after := #[{ on := 2, ground := Go.Ground.data }], guard := none }) (v := .pointer (some ⟨P, o + 2, none⟩)) rfl (by kernel_rfl) (by kernel_rfl) (by kernel_rfl) (fun _ _ _ h => h) (Or.inl ⟨by rfl, fun w hSw => by (try dsimp only at hSw); go_simp⟩) hS1 ?_
        simp only [Act.put, List.setIfInBounds_toArray, List.set_cons_zero, List.set_cons_succ]
        refine wpAnyH_take (i := 4) (oi := { dst := some 30, op := Go.Op.load 23 (Go.Operand.tmp 29), type := 23, pos := "sweep.go:123", after := #[{ on := 3, ground := Go.Ground.data }], guard := none }) (v := .agg #[.int .i64 (K.S : Nat), .int .i64 K.a, .int .i64 (K.C : Nat), .int .i64 (K.D : Nat), .int .i64 K.g, .int .i64 K.k]) rfl (by kernel_rfl) (by kernel_rfl) (by kernel_rfl) (fun _ _ _ h => h) (Or.inl ⟨by rfl, fun w hSw => by (try dsimp only at hSw); go_simp⟩) hS1 ?_
        simp only [Act.put, List.setIfInBounds_toArray, List.set_cons_zero, List.set_cons_succ]
        refine wpAnyH_take (i := 5) (oi := { dst := some 31, op := Go.Op.move (Go.Operand.tmp 0), type := 52, pos := "sweep.go:123", after := #[], guard := none }) (v := .pointer (some ⟨P, o, none⟩)) rfl (by kernel_rfl) (by kernel_rfl) (by kernel_rfl) (fun _ _ _ h => h) (Or.inl ⟨by rfl, fun w hSw => by (try dsimp only at hSw); go_simp⟩) hS1 ?_
        simp only [Act.put, List.setIfInBounds_toArray, List.set_cons_zero, List.set_cons_succ]
        refine wpAnyH_take (i := 6) (oi := { dst := some 32, op := Go.Op.nilCheck (Go.Operand.tmp 31), type := 0, pos := "sweep.go:123", after := #[{ on := 5, ground := Go.Ground.data }], guard := none }) (v := .pointer (some ⟨P, o, none⟩)) rfl (by kernel_rfl) (by kernel_rfl) (by kernel_rfl) (fun _ _ _ h => h) (Or.inl ⟨by rfl, fun w hSw => by (try dsimp only at hSw); go_simp⟩) hS1 ?_
        simp only [Act.put, List.setIfInBounds_toArray, List.set_cons_zero, List.set_cons_succ]
        refine wpAnyH_take (i := 7) (oi := { dst := some 33, op := Go.Op.fieldAddr 63 (Go.Operand.tmp 32) 4, type := 0, pos := "sweep.go:123", after := #[{ on := 6, ground := Go.Ground.data }], guard := none }) (v := .pointer (some ⟨P, o + 9, none⟩)) rfl (by kernel_rfl) (by kernel_rfl) (by kernel_rfl) (fun _ _ _ h => h) (Or.inl ⟨by rfl, fun w hSw => by (try dsimp only at hSw); go_simp⟩) hS1 ?_
        simp only [Act.put, List.setIfInBounds_toArray, List.set_cons_zero, List.set_cons_succ]
        refine wpAnyH_take (i := 8) (oi := { dst := some 34, op := Go.Op.load 3 (Go.Operand.tmp 33), type := 3, pos := "sweep.go:123", after := #[{ on := 7, ground := Go.Ground.data }], guard := none }) (v := .int .i64 (s : Nat)) rfl (by kernel_rfl) (by kernel_rfl) (by kernel_rfl) (fun _ _ _ h => h) (Or.inl ⟨by rfl, fun w hSw => by (try dsimp only at hSw); go_simp⟩) hS1 ?_
        simp only [Act.put, List.setIfInBounds_toArray, List.set_cons_zero, List.set_cons_succ]
        refine wpAnyH_ready (rs := [9]) (by kernel_rfl) (by simp) (AllReadyH.cons (o := { dst := some 35, op := Go.Op.call { callee := Go.Callee.value (Go.Operand.func 53), args := #[Go.Operand.tmp 30, Go.Operand.tmp 34], argTypes := #[23, 3] }, type := 97, pos := "sweep.go:123", after := #[{ on := 4, ground := Go.Ground.data }, { on := 8, ground := Go.Ground.data }], guard := none }) rfl (fun K hK => ?_) AllReadyH.nil)
        go_simp
        go_at_call 53
        with_reducible refine (c4 _).mono ?_
        rintro e wB ⟨Q, rfl, nb⟩
        (try simp only [])
        replace is := is.below nb.bel
        have hnb : Hid _ := nb.blk
        clear nb
        refine hK.out _ _ (HC.out _ _ _ is) (fun hS1 => ?_)
        (try simp only [Act.put, List.setIfInBounds_toArray, List.set_cons_zero, List.set_cons_succ])
        clear hK K
        refine wpAnyH_take (i := 10) (oi := { dst := some 36, op := Go.Op.nilCheck (Go.Operand.tmp 35), type := 0, pos := "sweep.go:123", after := #[{ on := 9, ground := Go.Ground.data }], guard := none }) (v := .pointer (some ⟨Q, 0, none⟩)) rfl (by kernel_rfl) (by kernel_rfl) (by kernel_rfl) (fun _ _ _ h => h) (Or.inl ⟨by rfl, fun w hSw => by (try dsimp only at hSw); go_simp⟩) hS1 ?_
        simp only [Act.put, List.setIfInBounds_toArray, List.set_cons_zero, List.set_cons_succ]
        refine wpAnyH_ready (rs := [11]) (by kernel_rfl) (by simp) (AllReadyH.cons (o := { dst := some 37, op := Go.Op.load 61 (Go.Operand.tmp 36), type := 61, pos := "sweep.go:123", after := #[{ on := 10, ground := Go.Ground.data }], guard := none }) rfl (fun K hK => ?_) AllReadyH.nil)
        obtain ⟨b0, b1, b2, b3, b4, b5, b6, b7, b8, b9, b10, b11, b12, b13, b14⟩ := blk15 hnb.out
        go_simp
        refine hK.out _ _ (HC.out _ _ _ is) (fun hS1 => ?_)
        (try simp only [Act.put, List.setIfInBounds_toArray, List.set_cons_zero, List.set_cons_succ])
        clear hK K b0 b1 b2 b3 b4 b5 b6 b7 b8 b9 b10 b11 b12 b13 b14 hnb
        refine wpAnyH_take (i := 12) (oi := { dst := some 38, op := Go.Op.nilCheck (Go.Operand.tmp 26), type := 0, pos := "sweep.go:123", after := #[{ on := 0, ground := Go.Ground.data }, { on := 0, ground := Go.Ground.phase }, { on := 1, ground := Go.Ground.phase }, { on := 2, ground := Go.Ground.phase }, { on := 3, ground := Go.Ground.phase }, { on := 4, ground := Go.Ground.phase }, { on := 5, ground := Go.Ground.phase }, { on := 6, ground := Go.Ground.phase }, { on := 7, ground := Go.Ground.phase }, { on := 8, ground := Go.Ground.phase }, { on := 9, ground := Go.Ground.phase }, { on := 10, ground := Go.Ground.phase }, { on := 11, ground := Go.Ground.phase }], guard := none }) (v := .pointer (some ⟨P, o, none⟩)) rfl (by kernel_rfl) (by kernel_rfl) (by kernel_rfl) (fun _ _ _ h => h) (Or.inl ⟨by rfl, fun w hSw => by (try dsimp only at hSw); go_simp⟩) hS1 ?_
        simp only [Act.put, List.setIfInBounds_toArray, List.set_cons_zero, List.set_cons_succ]
        refine wpAnyH_take (i := 13) (oi := { dst := some 39, op := Go.Op.fieldAddr 63 (Go.Operand.tmp 38) 5, type := 0, pos := "sweep.go:123", after := #[{ on := 12, ground := Go.Ground.data }, { on := 0, ground := Go.Ground.phase }, { on := 1, ground := Go.Ground.phase }, { on := 2, ground := Go.Ground.phase }, { on := 3, ground := Go.Ground.phase }, { on := 4, ground := Go.Ground.phase }, { on := 5, ground := Go.Ground.phase }, { on := 6, ground := Go.Ground.phase }, { on := 7, ground := Go.Ground.phase }, { on := 8, ground := Go.Ground.phase }, { on := 9, ground := Go.Ground.phase }, { on := 10, ground := Go.Ground.phase }, { on := 11, ground := Go.Ground.phase }], guard := none }) (v := .pointer (some ⟨P, o + 10, none⟩)) rfl (by kernel_rfl) (by kernel_rfl) (by kernel_rfl) (fun _ _ _ h => h) (Or.inl ⟨by rfl, fun w hSw => by (try dsimp only at hSw); go_simp⟩) hS1 ?_
        simp only [Act.put, List.setIfInBounds_toArray, List.set_cons_zero, List.set_cons_succ]
        refine wpAnyH_ready (rs := [14]) (by kernel_rfl) (by simp) (AllReadyH.cons (o := { dst := none, op := Go.Op.store 61 (Go.Operand.tmp 39) (Go.Operand.tmp 37), type := 0, pos := "sweep.go:123", after := #[{ on := 13, ground := Go.Ground.data }, { on := 11, ground := Go.Ground.data }, { on := 9, ground := Go.Ground.chain }, { on := 0, ground := Go.Ground.phase }, { on := 1, ground := Go.Ground.phase }, { on := 2, ground := Go.Ground.phase }, { on := 3, ground := Go.Ground.phase }, { on := 4, ground := Go.Ground.phase }, { on := 5, ground := Go.Ground.phase }, { on := 6, ground := Go.Ground.phase }, { on := 7, ground := Go.Ground.phase }, { on := 8, ground := Go.Ground.phase }, { on := 9, ground := Go.Ground.phase }, { on := 10, ground := Go.Ground.phase }, { on := 11, ground := Go.Ground.phase }], guard := none }) rfl (fun K hK => ?_) AllReadyH.nil)
        obtain ⟨y, t0, t1, t2, t3, t4, t5, t6, t7, t8, t9, t10, t11, t12, t13, t14⟩ := HT.out _ _ _ is
        have y0 := y (o + 10)
        have y1 := y (o + 10 + 1)
        have y2 := y (o + 10 + 2)
        have y3 := y (o + 10 + 3)
        have y4 := y (o + 10 + 4)
        have y5 := y (o + 10 + 5)
        have y6 := y (o + 10 + 6)
        have y7 := y (o + 10 + 7)
        have y8 := y (o + 10 + 8)
        have y9 := y (o + 10 + 9)
        have y10 := y (o + 10 + 10)
        have y11 := y (o + 10 + 11)
        have y12 := y (o + 10 + 12)
        have y13 := y (o + 10 + 13)
        have y14 := y (o + 10 + 14)
        clear y
        go_simp
        replace is := HP.out _ _ _ is
        refine hK.out _ _ (HR.out _ _ _ is) (fun hS1 => ?_)
        (try simp only [Act.put, List.setIfInBounds_toArray, List.set_cons_zero, List.set_cons_succ])
        clear hK K t0 y0 t1 y1 t2 y2 t3 y3 t4 y4 t5 y5 t6 y6 t7 y7 t8 y8 t9 y9 t10 y10 t11 y11 t12 y12 t13 y13 t14 y14
        refine wpAnyH_done (by kernel_rfl) ?_ _
        clear hS1
        generalize (((((((((((((((wB.setCell ⟨P, o + 10, none⟩ (.bool false)).setCell ⟨P, o + 10 + 1, none⟩ (.bool false)).setCell ⟨P, o + 10 + 2, none⟩ (.int .i64 (L : Nat))).setCell ⟨P, o + 10 + 3, none⟩ (.int .i64 K.g)).setCell ⟨P, o + 10 + 4, none⟩ (.int .i64 (K.S : Nat))).setCell ⟨P, o + 10 + 5, none⟩ (.int .i64 K.a)).setCell ⟨P, o + 10 + 6, none⟩ (.int .i64 (K.C : Nat))).setCell ⟨P, o + 10 + 7, none⟩ (.int .i64 (K.D : Nat))).setCell ⟨P, o + 10 + 8, none⟩ (.int .i64 K.g)).setCell ⟨P, o + 10 + 9, none⟩ (.int .i64 K.k)).setCell ⟨P, o + 10 + 10, none⟩ (.int .i64 (s : Nat))).setCell ⟨P, o + 10 + 11, none⟩ (.int .i64 0)).setCell ⟨P, o + 10 + 12, none⟩ (.int .u64 0)).setCell ⟨P, o + 10 + 13, none⟩ (.int .i64 0)).setCell ⟨P, o + 10 + 14, none⟩ (.int .u64 0)) = wg at *
        have l8 := is.cell N1.out.pc
        have f8 := is.free (o + 8)
        replace is := is.set (o + 8) (.int .i64 1)
        go_wp2
        go_end0
        exact ⟨rfl, _, is, N2.out, N3.out⟩
      
      · go_simp
        have hz : Hid _ := HdZ.ofNew is
        replace is := is.below (alloc_below _ (.cells #[.int .i64 0, .int .i64 0, .bool false, .int .i64 0, .int .i64 0, .int .i64 0] 43))
        refine hK.out _ _ (HC.out _ _ _ is) (fun hS1 => ?_)
        (try simp only [Act.put, List.setIfInBounds_toArray, List.set_cons_zero, List.set_cons_succ])
        clear hK K
        generalize w5.heap.size = R at hz ⊢
        generalize w5.alloc (.cells #[.int .i64 0, .int .i64 0, .bool false, .int .i64 0, .int .i64 0, .int .i64 0] 43) = wA at *
        refine wpAnyH_ready (rs := [11]) (by kernel_rfl) (by simp) (AllReadyH.cons (o := { dst := some 18, op := Go.Op.call { callee := Go.Callee.value (Go.Operand.func 51), args := #[Go.Operand.tmp 17], argTypes := #[25] }, type := 44, pos := "sweep.go:118", after := #[{ on := 10, ground := Go.Ground.data }, { on := 10, ground := Go.Ground.chain }], guard := none }) rfl (fun K hK => ?_) AllReadyH.nil)
        go_simp
        go_at_call 51
        with_reducible refine (c3 _ is.wt).mono ?_
        rintro e w6 ⟨rfl, b⟩
        (try simp only [])
        replace is := is.below b
        replace hz : Hid _ := hz.out.below b
        clear b
        refine hK.out _ _ (HC.out _ _ _ is) (fun hS1 => ?_)
        (try simp only [Act.put, List.setIfInBounds_toArray, List.set_cons_zero, List.set_cons_succ])
        clear hK K
        refine wpAnyH_take (i := 12) (oi := { dst := some 6, op := Go.Op.move (Go.Operand.tmp 18), type := 44, pos := "sweep.go:118", after := #[{ on := 11, ground := Go.Ground.data }], guard := none }) (v := .tuple #[.agg #[.int .i64 3, .int .i64 m', .bool g', .int .i64 a', .int .i64 n', .int .i64 s'], .bool z']) rfl (by kernel_rfl) (by kernel_rfl) (by kernel_rfl) (fun _ _ _ h => h) (Or.inl ⟨by rfl, fun w hSw => by (try dsimp only at hSw); go_simp⟩) hS1 ?_
        simp only [Act.put, List.setIfInBounds_toArray, List.set_cons_zero, List.set_cons_succ]
        refine wpAnyH_take (i := 13) (oi := { dst := some 19, op := Go.Op.extract (Go.Operand.tmp 6) 0, type := 43, pos := "sweep.go:118", after := #[{ on := 12, ground := Go.Ground.data }], guard := none }) (v := .agg #[.int .i64 3, .int .i64 m', .bool g', .int .i64 a', .int .i64 n', .int .i64 s']) rfl (by kernel_rfl) (by kernel_rfl) (by kernel_rfl) (fun _ _ _ h => h) (Or.inl ⟨by rfl, fun w hSw => by (try dsimp only at hSw); go_simp⟩) hS1 ?_
        simp only [Act.put, List.setIfInBounds_toArray, List.set_cons_zero, List.set_cons_succ]
        refine wpAnyH_take (i := 14) (oi := { dst := some 20, op := Go.Op.extract (Go.Operand.tmp 6) 1, type := 4, pos := "sweep.go:118", after := #[{ on := 12, ground := Go.Ground.data }, { on := 16, ground := Go.Ground.gcOnly Go.Departure.lateStores }], guard := none }) (v := .bool z') rfl (by kernel_rfl) (by kernel_rfl) (by kernel_rfl) (fun _ _ _ h => h) (Or.inl ⟨by rfl, fun w hSw => by (try dsimp only at hSw); go_simp⟩) hS1 ?_
        simp only [Act.put, List.setIfInBounds_toArray, List.set_cons_zero, List.set_cons_succ]
        refine wpAnyH_ready (rs := [16]) (by kernel_rfl) (by simp) (AllReadyH.cons (o := { dst := none, op := Go.Op.store 43 (Go.Operand.tmp 4) (Go.Operand.tmp 19), type := 0, pos := "sweep.go:118", after := #[{ on := 15, ground := Go.Ground.data }, { on := 13, ground := Go.Ground.data }, { on := 11, ground := Go.Ground.chain }, { on := 0, ground := Go.Ground.phase }, { on := 1, ground := Go.Ground.phase }, { on := 2, ground := Go.Ground.phase }, { on := 3, ground := Go.Ground.phase }, { on := 4, ground := Go.Ground.phase }, { on := 5, ground := Go.Ground.phase }, { on := 6, ground := Go.Ground.phase }, { on := 7, ground := Go.Ground.phase }, { on := 8, ground := Go.Ground.phase }, { on := 9, ground := Go.Ground.phase }, { on := 10, ground := Go.Ground.phase }, { on := 11, ground := Go.Ground.phase }, { on := 12, ground := Go.Ground.phase }, { on := 13, ground := Go.Ground.phase }, { on := 14, ground := Go.Ground.textOnly Go.Departure.lateStores }, { on := 15, ground := Go.Ground.phase }], guard := none }) rfl (fun K hK => ?_) AllReadyH.nil)
        obtain ⟨⟨q0, q1, q2, q3, q4, q5⟩, y⟩ := hz.out.cells
        have y0 := y 0
        have y1 := y 1
        have y2 := y 2
        have y3 := y 3
        have y4 := y 4
        have y5 := y 5
        clear y
        go_simp
        replace is := is.six hz.out hws.out (.int .i64 3) (.int .i64 m') (.bool g') (.int .i64 a') (.int .i64 n') (.int .i64 s')
        have hg0 := hz.out.got0 3 m' g' a' n' s'
        refine hK.out _ _ (HC.out _ _ _ is) (fun hS1 => ?_)
        (try simp only [Act.put, List.setIfInBounds_toArray, List.set_cons_zero, List.set_cons_succ])
        clear hK K q0 q1 q2 q3 q4 q5 y0 y1 y2 y3 y4 y5 hz
        refine wpAnyH_take (i := 17) (oi := { dst := some 5, op := Go.Op.assign (Go.Operand.tmp 20), type := 4, pos := "sweep.go:118", after := #[{ on := 14, ground := Go.Ground.data }, { on := 16, ground := Go.Ground.chain }, { on := 0, ground := Go.Ground.phase }, { on := 1, ground := Go.Ground.phase }, { on := 2, ground := Go.Ground.phase }, { on := 3, ground := Go.Ground.phase }, { on := 4, ground := Go.Ground.phase }, { on := 5, ground := Go.Ground.phase }, { on := 6, ground := Go.Ground.phase }, { on := 7, ground := Go.Ground.phase }, { on := 8, ground := Go.Ground.phase }, { on := 9, ground := Go.Ground.phase }, { on := 10, ground := Go.Ground.phase }, { on := 11, ground := Go.Ground.phase }, { on := 12, ground := Go.Ground.phase }, { on := 13, ground := Go.Ground.phase }, { on := 14, ground := Go.Ground.phase }, { on := 15, ground := Go.Ground.phase }, { on := 16, ground := Go.Ground.phase }], guard := none }) (v := .bool z') rfl (by kernel_rfl) (by kernel_rfl) (by kernel_rfl) (fun _ _ _ h => h) (Or.inl ⟨by rfl, fun w hSw => by (try dsimp only at hSw); go_simp⟩) hS1 ?_
        simp only [Act.put, List.setIfInBounds_toArray, List.set_cons_zero, List.set_cons_succ]
        refine wpAnyH_done (by kernel_rfl) ?_ _
        clear hS1
        generalize (((((((w6.setCell ⟨R, 0, none⟩ (.int .i64 3)).setCell ⟨R, 1, none⟩ (.int .i64 m')).setCell ⟨R, 2, none⟩ (.bool g')).setCell ⟨R, 3, none⟩ (.int .i64 a')).setCell ⟨R, 4, none⟩ (.int .i64 n')).setCell ⟨R, 5, none⟩ (.int .i64 s'))) = wf at *
        go_upto_region 3 with fail
        clear hg0
        replace is := is.drew
        have hS0 := HC.out _ _ _ is
        refine wp_region_held_drew (S := fun wr => wr.cell? ⟨P, o + 2, none⟩ = some (.int .i64 (K.S : Nat)) ∧ wr.cell? ⟨P, o + 2 + 1, none⟩ = some (.int .i64 K.a) ∧ wr.cell? ⟨P, o + 2 + 2, none⟩ = some (.int .i64 (K.C : Nat)) ∧ wr.cell? ⟨P, o + 2 + 3, none⟩ = some (.int .i64 (K.D : Nat)) ∧ wr.cell? ⟨P, o + 2 + 4, none⟩ = some (.int .i64 K.g) ∧ wr.cell? ⟨P, o + 2 + 5, none⟩ = some (.int .i64 K.k) ∧ wr.cell? ⟨P, o + 9, none⟩ = some (.int .i64 (s : Nat))) (by kernel_rfl) hS0 (fun hS1 => ?_)
        clear hS0
        refine wpAnyH_take (i := 0) (oi := { dst := some 26, op := Go.Op.move (Go.Operand.tmp 0), type := 52, pos := "sweep.go:123", after := #[], guard := none }) (v := .pointer (some ⟨P, o, none⟩)) rfl (by kernel_rfl) (by kernel_rfl) (by kernel_rfl) (fun _ _ _ h => h) (Or.inl ⟨by rfl, fun w hSw => by (try dsimp only at hSw); go_simp⟩) hS1 ?_
        simp only [Act.put, List.setIfInBounds_toArray, List.set_cons_zero, List.set_cons_succ]
        refine wpAnyH_take (i := 1) (oi := { dst := some 27, op := Go.Op.move (Go.Operand.tmp 0), type := 52, pos := "sweep.go:123", after := #[], guard := none }) (v := .pointer (some ⟨P, o, none⟩)) rfl (by kernel_rfl) (by kernel_rfl) (by kernel_rfl) (fun _ _ _ h => h) (Or.inl ⟨by rfl, fun w hSw => by (try dsimp only at hSw); go_simp⟩) hS1 ?_
        simp only [Act.put, List.setIfInBounds_toArray, List.set_cons_zero, List.set_cons_succ]
        refine wpAnyH_take (i := 2) (oi := { dst := some 28, op := Go.Op.nilCheck (Go.Operand.tmp 27), type := 0, pos := "sweep.go:123", after := #[{ on := 1, ground := Go.Ground.data }], guard := none }) (v := .pointer (some ⟨P, o, none⟩)) rfl (by kernel_rfl) (by kernel_rfl) (by kernel_rfl) (fun _ _ _ h => h) (Or.inl ⟨by rfl, fun w hSw => by (try dsimp only at hSw); go_simp⟩) hS1 ?_
        simp only [Act.put, List.setIfInBounds_toArray, List.set_cons_zero, List.set_cons_succ]
        refine wpAnyH_take (i := 3) (oi := { dst := some 29, op := Go.Op.fieldAddr 63 (Go.Operand.tmp 28) 2, type := 0, pos := "sweep.go:123", after := #[{ on := 2, ground := Go.Ground.data }], guard := none }) (v := .pointer (some ⟨P, o + 2, none⟩)) rfl (by kernel_rfl) (by kernel_rfl) (by kernel_rfl) (fun _ _ _ h => h) (Or.inl ⟨by rfl, fun w hSw => by (try dsimp only at hSw); go_simp⟩) hS1 ?_
        simp only [Act.put, List.setIfInBounds_toArray, List.set_cons_zero, List.set_cons_succ]
        refine wpAnyH_take (i := 4) (oi := { dst := some 30, op := Go.Op.load 23 (Go.Operand.tmp 29), type := 23, pos := "sweep.go:123", after := #[{ on := 3, ground := Go.Ground.data }], guard := none }) (v := .agg #[.int .i64 (K.S : Nat), .int .i64 K.a, .int .i64 (K.C : Nat), .int .i64 (K.D : Nat), .int .i64 K.g, .int .i64 K.k]) rfl (by kernel_rfl) (by kernel_rfl) (by kernel_rfl) (fun _ _ _ h => h) (Or.inl ⟨by rfl, fun w hSw => by (try dsimp only at hSw); go_simp⟩) hS1 ?_
        simp only [Act.put, List.setIfInBounds_toArray, List.set_cons_zero, List.set_cons_succ]
        refine wpAnyH_take (i := 5) (oi := { dst := some 31, op := Go.Op.move (Go.Operand.tmp 0), type := 52, pos := "sweep.go:123", after := #[], guard := none }) (v := .pointer (some ⟨P, o, none⟩)) rfl (by kernel_rfl) (by kernel_rfl) (by kernel_rfl) (fun _ _ _ h => h) (Or.inl ⟨by rfl, fun w hSw => by (try dsimp only at hSw); go_simp⟩) hS1 ?_
        simp only [Act.put, List.setIfInBounds_toArray, List.set_cons_zero, List.set_cons_succ]
        refine wpAnyH_take (i := 6) (oi := { dst := some 32, op := Go.Op.nilCheck (Go.Operand.tmp 31), type := 0, pos := "sweep.go:123", after := #[{ on := 5, ground := Go.Ground.data }], guard := none }) (v := .pointer (some ⟨P, o, none⟩)) rfl (by kernel_rfl) (by kernel_rfl) (by kernel_rfl) (fun _ _ _ h => h) (Or.inl ⟨by rfl, fun w hSw => by (try dsimp only at hSw); go_simp⟩) hS1 ?_
        simp only [Act.put, List.setIfInBounds_toArray, List.set_cons_zero, List.set_cons_succ]
        refine wpAnyH_take (i := 7) (oi := { dst := some 33, op := Go.Op.fieldAddr 63 (Go.Operand.tmp 32) 4, type := 0, pos := "sweep.go:123", after := #[{ on := 6, ground := Go.Ground.data }], guard := none }) (v := .pointer (some ⟨P, o + 9, none⟩)) rfl (by kernel_rfl) (by kernel_rfl) (by kernel_rfl) (fun _ _ _ h => h) (Or.inl ⟨by rfl, fun w hSw => by (try dsimp only at hSw); go_simp⟩) hS1 ?_
        simp only [Act.put, List.setIfInBounds_toArray, List.set_cons_zero, List.set_cons_succ]
        refine wpAnyH_take (i := 8) (oi := { dst := some 34, op := Go.Op.load 3 (Go.Operand.tmp 33), type := 3, pos := "sweep.go:123", after := #[{ on := 7, ground := Go.Ground.data }], guard := none }) (v := .int .i64 (s : Nat)) rfl (by kernel_rfl) (by kernel_rfl) (by kernel_rfl) (fun _ _ _ h => h) (Or.inl ⟨by rfl, fun w hSw => by (try dsimp only at hSw); go_simp⟩) hS1 ?_
        simp only [Act.put, List.setIfInBounds_toArray, List.set_cons_zero, List.set_cons_succ]
        refine wpAnyH_ready (rs := [9]) (by kernel_rfl) (by simp) (AllReadyH.cons (o := { dst := some 35, op := Go.Op.call { callee := Go.Callee.value (Go.Operand.func 53), args := #[Go.Operand.tmp 30, Go.Operand.tmp 34], argTypes := #[23, 3] }, type := 97, pos := "sweep.go:123", after := #[{ on := 4, ground := Go.Ground.data }, { on := 8, ground := Go.Ground.data }], guard := none }) rfl (fun K hK => ?_) AllReadyH.nil)
        go_simp
        go_at_call 53
        with_reducible refine (c4 _).mono ?_
        rintro e wB ⟨Q, rfl, nb⟩
        (try simp only [])
        replace is := is.below nb.bel
        have hnb : Hid _ := nb.blk
        clear nb
        refine hK.out _ _ (HC.out _ _ _ is) (fun hS1 => ?_)
        (try simp only [Act.put, List.setIfInBounds_toArray, List.set_cons_zero, List.set_cons_succ])
        clear hK K
        refine wpAnyH_take (i := 10) (oi := { dst := some 36, op := Go.Op.nilCheck (Go.Operand.tmp 35), type := 0, pos := "sweep.go:123", after := #[{ on := 9, ground := Go.Ground.data }], guard := none }) (v := .pointer (some ⟨Q, 0, none⟩)) rfl (by kernel_rfl) (by kernel_rfl) (by kernel_rfl) (fun _ _ _ h => h) (Or.inl ⟨by rfl, fun w hSw => by (try dsimp only at hSw); go_simp⟩) hS1 ?_
        simp only [Act.put, List.setIfInBounds_toArray, List.set_cons_zero, List.set_cons_succ]
        refine wpAnyH_ready (rs := [11]) (by kernel_rfl) (by simp) (AllReadyH.cons (o := { dst := some 37, op := Go.Op.load 61 (Go.Operand.tmp 36), type := 61, pos := "sweep.go:123", after := #[{ on := 10, ground := Go.Ground.data }], guard := none }) rfl (fun K hK => ?_) AllReadyH.nil)
        obtain ⟨b0, b1, b2, b3, b4, b5, b6, b7, b8, b9, b10, b11, b12, b13, b14⟩ := blk15 hnb.out
        go_simp
        refine hK.out _ _ (HC.out _ _ _ is) (fun hS1 => ?_)
        (try simp only [Act.put, List.setIfInBounds_toArray, List.set_cons_zero, List.set_cons_succ])
        clear hK K b0 b1 b2 b3 b4 b5 b6 b7 b8 b9 b10 b11 b12 b13 b14 hnb
        refine wpAnyH_take (i := 12) (oi := { dst := some 38, op := Go.Op.nilCheck (Go.Operand.tmp 26), type := 0, pos := "sweep.go:123", after := #[{ on := 0, ground := Go.Ground.data }, { on := 0, ground := Go.Ground.phase }, { on := 1, ground := Go.Ground.phase }, { on := 2, ground := Go.Ground.phase }, { on := 3, ground := Go.Ground.phase }, { on := 4, ground := Go.Ground.phase }, { on := 5, ground := Go.Ground.phase }, { on := 6, ground := Go.Ground.phase }, { on := 7, ground := Go.Ground.phase }, { on := 8, ground := Go.Ground.phase }, { on := 9, ground := Go.Ground.phase }, { on := 10, ground := Go.Ground.phase }, { on := 11, ground := Go.Ground.phase }], guard := none }) (v := .pointer (some ⟨P, o, none⟩)) rfl (by kernel_rfl) (by kernel_rfl) (by kernel_rfl) (fun _ _ _ h => h) (Or.inl ⟨by rfl, fun w hSw => by (try dsimp only at hSw); go_simp⟩) hS1 ?_
        simp only [Act.put, List.setIfInBounds_toArray, List.set_cons_zero, List.set_cons_succ]
        refine wpAnyH_take (i := 13) (oi := { dst := some 39, op := Go.Op.fieldAddr 63 (Go.Operand.tmp 38) 5, type := 0, pos := "sweep.go:123", after := #[{ on := 12, ground := Go.Ground.data }, { on := 0, ground := Go.Ground.phase }, { on := 1, ground := Go.Ground.phase }, { on := 2, ground := Go.Ground.phase }, { on := 3, ground := Go.Ground.phase }, { on := 4, ground := Go.Ground.phase }, { on := 5, ground := Go.Ground.phase }, { on := 6, ground := Go.Ground.phase }, { on := 7, ground := Go.Ground.phase }, { on := 8, ground := Go.Ground.phase }, { on := 9, ground := Go.Ground.phase }, { on := 10, ground := Go.Ground.phase }, { on := 11, ground := Go.Ground.phase }], guard := none }) (v := .pointer (some ⟨P, o + 10, none⟩)) rfl (by kernel_rfl) (by kernel_rfl) (by kernel_rfl) (fun _ _ _ h => h) (Or.inl ⟨by rfl, fun w hSw => by (try dsimp only at hSw); go_simp⟩) hS1 ?_
        simp only [Act.put, List.setIfInBounds_toArray, List.set_cons_zero, List.set_cons_succ]
        refine wpAnyH_ready (rs := [14]) (by kernel_rfl) (by simp) (AllReadyH.cons (o := { dst := none, op := Go.Op.store 61 (Go.Operand.tmp 39) (Go.Operand.tmp 37), type := 0, pos := "sweep.go:123", after := #[{ on := 13, ground := Go.Ground.data }, { on := 11, ground := Go.Ground.data }, { on := 9, ground := Go.Ground.chain }, { on := 0, ground := Go.Ground.phase }, { on := 1, ground := Go.Ground.phase }, { on := 2, ground := Go.Ground.phase }, { on := 3, ground := Go.Ground.phase }, { on := 4, ground := Go.Ground.phase }, { on := 5, ground := Go.Ground.phase }, { on := 6, ground := Go.Ground.phase }, { on := 7, ground := Go.Ground.phase }, { on := 8, ground := Go.Ground.phase }, { on := 9, ground := Go.Ground.phase }, { on := 10, ground := Go.Ground.phase }, { on := 11, ground := Go.Ground.phase }], guard := none }) rfl (fun K hK => ?_) AllReadyH.nil)
        obtain ⟨y, t0, t1, t2, t3, t4, t5, t6, t7, t8, t9, t10, t11, t12, t13, t14⟩ := HT.out _ _ _ is
        have y0 := y (o + 10)
        have y1 := y (o + 10 + 1)
        have y2 := y (o + 10 + 2)
        have y3 := y (o + 10 + 3)
        have y4 := y (o + 10 + 4)
        have y5 := y (o + 10 + 5)
        have y6 := y (o + 10 + 6)
        have y7 := y (o + 10 + 7)
        have y8 := y (o + 10 + 8)
        have y9 := y (o + 10 + 9)
        have y10 := y (o + 10 + 10)
        have y11 := y (o + 10 + 11)
        have y12 := y (o + 10 + 12)
        have y13 := y (o + 10 + 13)
        have y14 := y (o + 10 + 14)
        clear y
        go_simp
        replace is := HP.out _ _ _ is
        refine hK.out _ _ (HR.out _ _ _ is) (fun hS1 => ?_)
        (try simp only [Act.put, List.setIfInBounds_toArray, List.set_cons_zero, List.set_cons_succ])
        clear hK K t0 y0 t1 y1 t2 y2 t3 y3 t4 y4 t5 y5 t6 y6 t7 y7 t8 y8 t9 y9 t10 y10 t11 y11 t12 y12 t13 y13 t14 y14
        refine wpAnyH_done (by kernel_rfl) ?_ _
        clear hS1
        generalize (((((((((((((((wB.setCell ⟨P, o + 10, none⟩ (.bool false)).setCell ⟨P, o + 10 + 1, none⟩ (.bool false)).setCell ⟨P, o + 10 + 2, none⟩ (.int .i64 (L : Nat))).setCell ⟨P, o + 10 + 3, none⟩ (.int .i64 K.g)).setCell ⟨P, o + 10 + 4, none⟩ (.int .i64 (K.S : Nat))).setCell ⟨P, o + 10 + 5, none⟩ (.int .i64 K.a)).setCell ⟨P, o + 10 + 6, none⟩ (.int .i64 (K.C : Nat))).setCell ⟨P, o + 10 + 7, none⟩ (.int .i64 (K.D : Nat))).setCell ⟨P, o + 10 + 8, none⟩ (.int .i64 K.g)).setCell ⟨P, o + 10 + 9, none⟩ (.int .i64 K.k)).setCell ⟨P, o + 10 + 10, none⟩ (.int .i64 (s : Nat))).setCell ⟨P, o + 10 + 11, none⟩ (.int .i64 0)).setCell ⟨P, o + 10 + 12, none⟩ (.int .u64 0)).setCell ⟨P, o + 10 + 13, none⟩ (.int .i64 0)).setCell ⟨P, o + 10 + 14, none⟩ (.int .u64 0)) = wg at *
        have l8 := is.cell N1.out.pc
        have f8 := is.free (o + 8)
        replace is := is.set (o + 8) (.int .i64 1)
        go_wp2
        go_end0
        exact ⟨rfl, _, is, N2.out, N3.out⟩
      
    · go_simp
      have hz : Hid _ := HdZ.ofNew is
      replace is := is.below (alloc_below _ (.cells #[.int .i64 0, .int .i64 0, .bool false, .int .i64 0, .int .i64 0, .int .i64 0] 43))
      refine hK.out _ _ (HC.out _ _ _ is) (fun hS1 => ?_)
      (try simp only [Act.put, List.setIfInBounds_toArray, List.set_cons_zero, List.set_cons_succ])
      clear hK K
      generalize w4.heap.size = R at hz ⊢
      generalize w4.alloc (.cells #[.int .i64 0, .int .i64 0, .bool false, .int .i64 0, .int .i64 0, .int .i64 0] 43) = wA at *
      refine wpAnyH_ready (rs := [10]) (by kernel_rfl) (by simp) (AllReadyH.cons (o := { dst := some 17, op := Go.Op.call { callee := Go.Callee.value (Go.Operand.func 46), args := #[Go.Operand.tmp 7, Go.Operand.tmp 16], argTypes := #[30, 3] }, type := 25, pos := "sweep.go:118", after := #[{ on := 0, ground := Go.Ground.data }, { on := 9, ground := Go.Ground.data }, { on := 9, ground := Go.Ground.chain }], guard := none }) rfl (fun K hK => ?_) AllReadyH.nil)
      go_simp
      go_at_call 46
      with_reducible refine (c0 _ is).mono ?_
      rintro e w5 ⟨rfl, i1, ho⟩
      (try simp only [])
      clear is
      have is := i1
      clear i1
      replace hz : Hid _ := hz.out.only ho
      clear ho
      refine hK.out _ _ (HC.out _ _ _ is) (fun hS1 => ?_)
      (try simp only [Act.put, List.setIfInBounds_toArray, List.set_cons_zero, List.set_cons_succ])
      clear hK K
      refine wpAnyH_ready (rs := [11]) (by kernel_rfl) (by simp) (AllReadyH.cons (o := { dst := some 18, op := Go.Op.call { callee := Go.Callee.value (Go.Operand.func 51), args := #[Go.Operand.tmp 17], argTypes := #[25] }, type := 44, pos := "sweep.go:118", after := #[{ on := 10, ground := Go.Ground.data }, { on := 10, ground := Go.Ground.chain }], guard := none }) rfl (fun K hK => ?_) AllReadyH.nil)
      go_simp
      go_at_call 51
      with_reducible refine (c3 _ is.wt).mono ?_
      rintro e w6 ⟨rfl, b⟩
      (try simp only [])
      replace is := is.below b
      replace hz : Hid _ := hz.out.below b
      clear b
      refine hK.out _ _ (HC.out _ _ _ is) (fun hS1 => ?_)
      (try simp only [Act.put, List.setIfInBounds_toArray, List.set_cons_zero, List.set_cons_succ])
      clear hK K
      refine wpAnyH_take (i := 12) (oi := { dst := some 6, op := Go.Op.move (Go.Operand.tmp 18), type := 44, pos := "sweep.go:118", after := #[{ on := 11, ground := Go.Ground.data }], guard := none }) (v := .tuple #[.agg #[.int .i64 3, .int .i64 m', .bool g', .int .i64 a', .int .i64 n', .int .i64 s'], .bool z']) rfl (by kernel_rfl) (by kernel_rfl) (by kernel_rfl) (fun _ _ _ h => h) (Or.inl ⟨by rfl, fun w hSw => by (try dsimp only at hSw); go_simp⟩) hS1 ?_
      simp only [Act.put, List.setIfInBounds_toArray, List.set_cons_zero, List.set_cons_succ]
      refine wpAnyH_take (i := 13) (oi := { dst := some 19, op := Go.Op.extract (Go.Operand.tmp 6) 0, type := 43, pos := "sweep.go:118", after := #[{ on := 12, ground := Go.Ground.data }], guard := none }) (v := .agg #[.int .i64 3, .int .i64 m', .bool g', .int .i64 a', .int .i64 n', .int .i64 s']) rfl (by kernel_rfl) (by kernel_rfl) (by kernel_rfl) (fun _ _ _ h => h) (Or.inl ⟨by rfl, fun w hSw => by (try dsimp only at hSw); go_simp⟩) hS1 ?_
      simp only [Act.put, List.setIfInBounds_toArray, List.set_cons_zero, List.set_cons_succ]
      refine wpAnyH_take (i := 14) (oi := { dst := some 20, op := Go.Op.extract (Go.Operand.tmp 6) 1, type := 4, pos := "sweep.go:118", after := #[{ on := 12, ground := Go.Ground.data }, { on := 16, ground := Go.Ground.gcOnly Go.Departure.lateStores }], guard := none }) (v := .bool z') rfl (by kernel_rfl) (by kernel_rfl) (by kernel_rfl) (fun _ _ _ h => h) (Or.inl ⟨by rfl, fun w hSw => by (try dsimp only at hSw); go_simp⟩) hS1 ?_
      simp only [Act.put, List.setIfInBounds_toArray, List.set_cons_zero, List.set_cons_succ]
      refine wpAnyH_ready (rs := [16]) (by kernel_rfl) (by simp) (AllReadyH.cons (o := { dst := none, op := Go.Op.store 43 (Go.Operand.tmp 4) (Go.Operand.tmp 19), type := 0, pos := "sweep.go:118", after := #[{ on := 15, ground := Go.Ground.data }, { on := 13, ground := Go.Ground.data }, { on := 11, ground := Go.Ground.chain }, { on := 0, ground := Go.Ground.phase }, { on := 1, ground := Go.Ground.phase }, { on := 2, ground := Go.Ground.phase }, { on := 3, ground := Go.Ground.phase }, { on := 4, ground := Go.Ground.phase }, { on := 5, ground := Go.Ground.phase }, { on := 6, ground := Go.Ground.phase }, { on := 7, ground := Go.Ground.phase }, { on := 8, ground := Go.Ground.phase }, { on := 9, ground := Go.Ground.phase }, { on := 10, ground := Go.Ground.phase }, { on := 11, ground := Go.Ground.phase }, { on := 12, ground := Go.Ground.phase }, { on := 13, ground := Go.Ground.phase }, { on := 14, ground := Go.Ground.textOnly Go.Departure.lateStores }, { on := 15, ground := Go.Ground.phase }], guard := none }) rfl (fun K hK => ?_) AllReadyH.nil)
      obtain ⟨⟨q0, q1, q2, q3, q4, q5⟩, y⟩ := hz.out.cells
      have y0 := y 0
      have y1 := y 1
      have y2 := y 2
      have y3 := y 3
      have y4 := y 4
      have y5 := y 5
      clear y
      go_simp
      replace is := is.six hz.out hws.out (.int .i64 3) (.int .i64 m') (.bool g') (.int .i64 a') (.int .i64 n') (.int .i64 s')
      have hg0 := hz.out.got0 3 m' g' a' n' s'
      refine hK.out _ _ (HC.out _ _ _ is) (fun hS1 => ?_)
      (try simp only [Act.put, List.setIfInBounds_toArray, List.set_cons_zero, List.set_cons_succ])
      clear hK K q0 q1 q2 q3 q4 q5 y0 y1 y2 y3 y4 y5 hz
      refine wpAnyH_take (i := 17) (oi := { dst := some 5, op := Go.Op.assign (Go.Operand.tmp 20), type := 4, pos := "sweep.go:118", after := #[{ on := 14, ground := Go.Ground.data }, { on := 16, ground := Go.Ground.chain }, { on := 0, ground := Go.Ground.phase }, { on := 1, ground := Go.Ground.phase }, { on := 2, ground := Go.Ground.phase }, { on := 3, ground := Go.Ground.phase }, { on := 4, ground := Go.Ground.phase }, { on := 5, ground := Go.Ground.phase }, { on := 6, ground := Go.Ground.phase }, { on := 7, ground := Go.Ground.phase }, { on := 8, ground := Go.Ground.phase }, { on := 9, ground := Go.Ground.phase }, { on := 10, ground := Go.Ground.phase }, { on := 11, ground := Go.Ground.phase }, { on := 12, ground := Go.Ground.phase }, { on := 13, ground := Go.Ground.phase }, { on := 14, ground := Go.Ground.phase }, { on := 15, ground := Go.Ground.phase }, { on := 16, ground := Go.Ground.phase }], guard := none }) (v := .bool z') rfl (by kernel_rfl) (by kernel_rfl) (by kernel_rfl) (fun _ _ _ h => h) (Or.inl ⟨by rfl, fun w hSw => by (try dsimp only at hSw); go_simp⟩) hS1 ?_
      simp only [Act.put, List.setIfInBounds_toArray, List.set_cons_zero, List.set_cons_succ]
      refine wpAnyH_done (by kernel_rfl) ?_ _
      clear hS1
      generalize (((((((w6.setCell ⟨R, 0, none⟩ (.int .i64 3)).setCell ⟨R, 1, none⟩ (.int .i64 m')).setCell ⟨R, 2, none⟩ (.bool g')).setCell ⟨R, 3, none⟩ (.int .i64 a')).setCell ⟨R, 4, none⟩ (.int .i64 n')).setCell ⟨R, 5, none⟩ (.int .i64 s'))) = wf at *
      go_upto_region 3 with fail
      clear hg0
      replace is := is.drew
      have hS0 := HC.out _ _ _ is
      refine wp_region_held_drew (S := fun wr => wr.cell? ⟨P, o + 2, none⟩ = some (.int .i64 (K.S : Nat)) ∧ wr.cell? ⟨P, o + 2 + 1, none⟩ = some (.int .i64 K.a) ∧ wr.cell? ⟨P, o + 2 + 2, none⟩ = some (.int .i64 (K.C : Nat)) ∧ wr.cell? ⟨P, o + 2 + 3, none⟩ = some (.int .i64 (K.D : Nat)) ∧ wr.cell? ⟨P, o + 2 + 4, none⟩ = some (.int .i64 K.g) ∧ wr.cell? ⟨P, o + 2 + 5, none⟩ = some (.int .i64 K.k) ∧ wr.cell? ⟨P, o + 9, none⟩ = some (.int .i64 (s : Nat))) (by kernel_rfl) hS0 (fun hS1 => ?_)
      clear hS0
      refine wpAnyH_take (i := 0) (oi := { dst := some 26, op := Go.Op.move (Go.Operand.tmp 0), type := 52, pos := "sweep.go:123", after := #[], guard := none }) (v := .pointer (some ⟨P, o, none⟩)) rfl (by kernel_rfl) (by kernel_rfl) (by kernel_rfl) (fun _ _ _ h => h) (Or.inl ⟨by rfl, fun w hSw => by (try dsimp only at hSw); go_simp⟩) hS1 ?_
      simp only [Act.put, List.setIfInBounds_toArray, List.set_cons_zero, List.set_cons_succ]
      refine wpAnyH_take (i := 1) (oi := { dst := some 27, op := Go.Op.move (Go.Operand.tmp 0), type := 52, pos := "sweep.go:123", after := #[], guard := none }) (v := .pointer (some ⟨P, o, none⟩)) rfl (by kernel_rfl) (by kernel_rfl) (by kernel_rfl) (fun _ _ _ h => h) (Or.inl ⟨by rfl, fun w hSw => by (try dsimp only at hSw); go_simp⟩) hS1 ?_
      simp only [Act.put, List.setIfInBounds_toArray, List.set_cons_zero, List.set_cons_succ]
      refine wpAnyH_take (i := 2) (oi := { dst := some 28, op := Go.Op.nilCheck (Go.Operand.tmp 27), type := 0, pos := "sweep.go:123", after := #[{ on := 1, ground := Go.Ground.data }], guard := none }) (v := .pointer (some ⟨P, o, none⟩)) rfl (by kernel_rfl) (by kernel_rfl) (by kernel_rfl) (fun _ _ _ h => h) (Or.inl ⟨by rfl, fun w hSw => by (try dsimp only at hSw); go_simp⟩) hS1 ?_
      simp only [Act.put, List.setIfInBounds_toArray, List.set_cons_zero, List.set_cons_succ]
      refine wpAnyH_take (i := 3) (oi := { dst := some 29, op := Go.Op.fieldAddr 63 (Go.Operand.tmp 28) 2, type := 0, pos := "sweep.go:123", after := #[{ on := 2, ground := Go.Ground.data }], guard := none }) (v := .pointer (some ⟨P, o + 2, none⟩)) rfl (by kernel_rfl) (by kernel_rfl) (by kernel_rfl) (fun _ _ _ h => h) (Or.inl ⟨by rfl, fun w hSw => by (try dsimp only at hSw); go_simp⟩) hS1 ?_
      simp only [Act.put, List.setIfInBounds_toArray, List.set_cons_zero, List.set_cons_succ]
      refine wpAnyH_take (i := 4) (oi := { dst := some 30, op := Go.Op.load 23 (Go.Operand.tmp 29), type := 23, pos := "sweep.go:123", after := #[{ on := 3, ground := Go.Ground.data }], guard := none }) (v := .agg #[.int .i64 (K.S : Nat), .int .i64 K.a, .int .i64 (K.C : Nat), .int .i64 (K.D : Nat), .int .i64 K.g, .int .i64 K.k]) rfl (by kernel_rfl) (by kernel_rfl) (by kernel_rfl) (fun _ _ _ h => h) (Or.inl ⟨by rfl, fun w hSw => by (try dsimp only at hSw); go_simp⟩) hS1 ?_
      simp only [Act.put, List.setIfInBounds_toArray, List.set_cons_zero, List.set_cons_succ]
      refine wpAnyH_take (i := 5) (oi := { dst := some 31, op := Go.Op.move (Go.Operand.tmp 0), type := 52, pos := "sweep.go:123", after := #[], guard := none }) (v := .pointer (some ⟨P, o, none⟩)) rfl (by kernel_rfl) (by kernel_rfl) (by kernel_rfl) (fun _ _ _ h => h) (Or.inl ⟨by rfl, fun w hSw => by (try dsimp only at hSw); go_simp⟩) hS1 ?_
      simp only [Act.put, List.setIfInBounds_toArray, List.set_cons_zero, List.set_cons_succ]
      refine wpAnyH_take (i := 6) (oi := { dst := some 32, op := Go.Op.nilCheck (Go.Operand.tmp 31), type := 0, pos := "sweep.go:123", after := #[{ on := 5, ground := Go.Ground.data }], guard := none }) (v := .pointer (some ⟨P, o, none⟩)) rfl (by kernel_rfl) (by kernel_rfl) (by kernel_rfl) (fun _ _ _ h => h) (Or.inl ⟨by rfl, fun w hSw => by (try dsimp only at hSw); go_simp⟩) hS1 ?_
      simp only [Act.put, List.setIfInBounds_toArray, List.set_cons_zero, List.set_cons_succ]
      refine wpAnyH_take (i := 7) (oi := { dst := some 33, op := Go.Op.fieldAddr 63 (Go.Operand.tmp 32) 4, type := 0, pos := "sweep.go:123", after := #[{ on := 6, ground := Go.Ground.data }], guard := none }) (v := .pointer (some ⟨P, o + 9, none⟩)) rfl (by kernel_rfl) (by kernel_rfl) (by kernel_rfl) (fun _ _ _ h => h) (Or.inl ⟨by rfl, fun w hSw => by (try dsimp only at hSw); go_simp⟩) hS1 ?_
      simp only [Act.put, List.setIfInBounds_toArray, List.set_cons_zero, List.set_cons_succ]
      refine wpAnyH_take (i := 8) (oi := { dst := some 34, op := Go.Op.load 3 (Go.Operand.tmp 33), type := 3, pos := "sweep.go:123", after := #[{ on := 7, ground := Go.Ground.data }], guard := none }) (v := .int .i64 (s : Nat)) rfl (by kernel_rfl) (by kernel_rfl) (by kernel_rfl) (fun _ _ _ h => h) (Or.inl ⟨by rfl, fun w hSw => by (try dsimp only at hSw); go_simp⟩) hS1 ?_
      simp only [Act.put, List.setIfInBounds_toArray, List.set_cons_zero, List.set_cons_succ]
      refine wpAnyH_ready (rs := [9]) (by kernel_rfl) (by simp) (AllReadyH.cons (o := { dst := some 35, op := Go.Op.call { callee := Go.Callee.value (Go.Operand.func 53), args := #[Go.Operand.tmp 30, Go.Operand.tmp 34], argTypes := #[23, 3] }, type := 97, pos := "sweep.go:123", after := #[{ on := 4, ground := Go.Ground.data }, { on := 8, ground := Go.Ground.data }], guard := none }) rfl (fun K hK => ?_) AllReadyH.nil)
      go_simp
      go_at_call 53
      with_reducible refine (c4 _).mono ?_
      rintro e wB ⟨Q, rfl, nb⟩
      (try simp only [])
      replace is := is.below nb.bel
      have hnb : Hid _ := nb.blk
      clear nb
      refine hK.out _ _ (HC.out _ _ _ is) (fun hS1 => ?_)
      (try simp only [Act.put, List.setIfInBounds_toArray, List.set_cons_zero, List.set_cons_succ])
      clear hK K
      refine wpAnyH_take (i := 10) (oi := { dst := some 36, op := Go.Op.nilCheck (Go.Operand.tmp 35), type := 0, pos := "sweep.go:123", after := #[{ on := 9, ground := Go.Ground.data }], guard := none }) (v := .pointer (some ⟨Q, 0, none⟩)) rfl (by kernel_rfl) (by kernel_rfl) (by kernel_rfl) (fun _ _ _ h => h) (Or.inl ⟨by rfl, fun w hSw => by (try dsimp only at hSw); go_simp⟩) hS1 ?_
      simp only [Act.put, List.setIfInBounds_toArray, List.set_cons_zero, List.set_cons_succ]
      refine wpAnyH_ready (rs := [11]) (by kernel_rfl) (by simp) (AllReadyH.cons (o := { dst := some 37, op := Go.Op.load 61 (Go.Operand.tmp 36), type := 61, pos := "sweep.go:123", after := #[{ on := 10, ground := Go.Ground.data }], guard := none }) rfl (fun K hK => ?_) AllReadyH.nil)
      obtain ⟨b0, b1, b2, b3, b4, b5, b6, b7, b8, b9, b10, b11, b12, b13, b14⟩ := blk15 hnb.out
      go_simp
      refine hK.out _ _ (HC.out _ _ _ is) (fun hS1 => ?_)
      (try simp only [Act.put, List.setIfInBounds_toArray, List.set_cons_zero, List.set_cons_succ])
      clear hK K b0 b1 b2 b3 b4 b5 b6 b7 b8 b9 b10 b11 b12 b13 b14 hnb
      refine wpAnyH_take (i := 12) (oi := { dst := some 38, op := Go.Op.nilCheck (Go.Operand.tmp 26), type := 0, pos := "sweep.go:123", after := #[{ on := 0, ground := Go.Ground.data }, { on := 0, ground := Go.Ground.phase }, { on := 1, ground := Go.Ground.phase }, { on := 2, ground := Go.Ground.phase }, { on := 3, ground := Go.Ground.phase }, { on := 4, ground := Go.Ground.phase }, { on := 5, ground := Go.Ground.phase }, { on := 6, ground := Go.Ground.phase }, { on := 7, ground := Go.Ground.phase }, { on := 8, ground := Go.Ground.phase }, { on := 9, ground := Go.Ground.phase }, { on := 10, ground := Go.Ground.phase }, { on := 11, ground := Go.Ground.phase }], guard := none }) (v := .pointer (some ⟨P, o, none⟩)) rfl (by kernel_rfl) (by kernel_rfl) (by kernel_rfl) (fun _ _ _ h => h) (Or.inl ⟨by rfl, fun w hSw => by (try dsimp only at hSw); go_simp⟩) hS1 ?_
      simp only [Act.put, List.setIfInBounds_toArray, List.set_cons_zero, List.set_cons_succ]
      refine wpAnyH_take (i := 13) (oi := { dst := some 39, op := Go.Op.fieldAddr 63 (Go.Operand.tmp 38) 5, type := 0, pos := "sweep.go:123", after := #[{ on := 12, ground := Go.Ground.data }, { on := 0, ground := Go.Ground.phase }, { on := 1, ground := Go.Ground.phase }, { on := 2, ground := Go.Ground.phase }, { on := 3, ground := Go.Ground.phase }, { on := 4, ground := Go.Ground.phase }, { on := 5, ground := Go.Ground.phase }, { on := 6, ground := Go.Ground.phase }, { on := 7, ground := Go.Ground.phase }, { on := 8, ground := Go.Ground.phase }, { on := 9, ground := Go.Ground.phase }, { on := 10, ground := Go.Ground.phase }, { on := 11, ground := Go.Ground.phase }], guard := none }) (v := .pointer (some ⟨P, o + 10, none⟩)) rfl (by kernel_rfl) (by kernel_rfl) (by kernel_rfl) (fun _ _ _ h => h) (Or.inl ⟨by rfl, fun w hSw => by (try dsimp only at hSw); go_simp⟩) hS1 ?_
      simp only [Act.put, List.setIfInBounds_toArray, List.set_cons_zero, List.set_cons_succ]
      refine wpAnyH_ready (rs := [14]) (by kernel_rfl) (by simp) (AllReadyH.cons (o := { dst := none, op := Go.Op.store 61 (Go.Operand.tmp 39) (Go.Operand.tmp 37), type := 0, pos := "sweep.go:123", after := #[{ on := 13, ground := Go.Ground.data }, { on := 11, ground := Go.Ground.data }, { on := 9, ground := Go.Ground.chain }, { on := 0, ground := Go.Ground.phase }, { on := 1, ground := Go.Ground.phase }, { on := 2, ground := Go.Ground.phase }, { on := 3, ground := Go.Ground.phase }, { on := 4, ground := Go.Ground.phase }, { on := 5, ground := Go.Ground.phase }, { on := 6, ground := Go.Ground.phase }, { on := 7, ground := Go.Ground.phase }, { on := 8, ground := Go.Ground.phase }, { on := 9, ground := Go.Ground.phase }, { on := 10, ground := Go.Ground.phase }, { on := 11, ground := Go.Ground.phase }], guard := none }) rfl (fun K hK => ?_) AllReadyH.nil)
      obtain ⟨y, t0, t1, t2, t3, t4, t5, t6, t7, t8, t9, t10, t11, t12, t13, t14⟩ := HT.out _ _ _ is
      have y0 := y (o + 10)
      have y1 := y (o + 10 + 1)
      have y2 := y (o + 10 + 2)
      have y3 := y (o + 10 + 3)
      have y4 := y (o + 10 + 4)
      have y5 := y (o + 10 + 5)
      have y6 := y (o + 10 + 6)
      have y7 := y (o + 10 + 7)
      have y8 := y (o + 10 + 8)
      have y9 := y (o + 10 + 9)
      have y10 := y (o + 10 + 10)
      have y11 := y (o + 10 + 11)
      have y12 := y (o + 10 + 12)
      have y13 := y (o + 10 + 13)
      have y14 := y (o + 10 + 14)
      clear y
      go_simp
      replace is := HP.out _ _ _ is
      refine hK.out _ _ (HR.out _ _ _ is) (fun hS1 => ?_)
      (try simp only [Act.put, List.setIfInBounds_toArray, List.set_cons_zero, List.set_cons_succ])
      clear hK K t0 y0 t1 y1 t2 y2 t3 y3 t4 y4 t5 y5 t6 y6 t7 y7 t8 y8 t9 y9 t10 y10 t11 y11 t12 y12 t13 y13 t14 y14
      refine wpAnyH_done (by kernel_rfl) ?_ _
      clear hS1
      generalize (((((((((((((((wB.setCell ⟨P, o + 10, none⟩ (.bool false)).setCell ⟨P, o + 10 + 1, none⟩ (.bool false)).setCell ⟨P, o + 10 + 2, none⟩ (.int .i64 (L : Nat))).setCell ⟨P, o + 10 + 3, none⟩ (.int .i64 K.g)).setCell ⟨P, o + 10 + 4, none⟩ (.int .i64 (K.S : Nat))).setCell ⟨P, o + 10 + 5, none⟩ (.int .i64 K.a)).setCell ⟨P, o + 10 + 6, none⟩ (.int .i64 (K.C : Nat))).setCell ⟨P, o + 10 + 7, none⟩ (.int .i64 (K.D : Nat))).setCell ⟨P, o + 10 + 8, none⟩ (.int .i64 K.g)).setCell ⟨P, o + 10 + 9, none⟩ (.int .i64 K.k)).setCell ⟨P, o + 10 + 10, none⟩ (.int .i64 (s : Nat))).setCell ⟨P, o + 10 + 11, none⟩ (.int .i64 0)).setCell ⟨P, o + 10 + 12, none⟩ (.int .u64 0)).setCell ⟨P, o + 10 + 13, none⟩ (.int .i64 0)).setCell ⟨P, o + 10 + 14, none⟩ (.int .u64 0)) = wg at *
      have l8 := is.cell N1.out.pc
      have f8 := is.free (o + 8)
      replace is := is.set (o + 8) (.int .i64 1)
      go_wp2
      go_end0
      exact ⟨rfl, _, is, N2.out, N3.out⟩
    
  · go_simp
    have hz : Hid _ := HdZ.ofNewD is0
    replace is := (is0.below (alloc_below _ (.cells #[.int .i64 0, .int .i64 0, .bool false, .int .i64 0, .int .i64 0, .int .i64 0] 43))).drew
    refine hK.out _ _ (HC.out _ _ _ is) (fun hS1 => ?_)
    (try simp only [Act.put, List.setIfInBounds_toArray, List.set_cons_zero, List.set_cons_succ])
    clear hK K
    generalize w.heap.size = R at hz ⊢
    generalize (w.alloc (.cells #[.int .i64 0, .int .i64 0, .bool false, .int .i64 0, .int .i64 0, .int .i64 0] 43)).drew = wA at *
    refine wpAnyH_ready (rs := [9]) (by kernel_rfl) (by simp) (AllReadyH.cons (o := { dst := some 16, op := Go.Op.call { callee := Go.Callee.value (Go.Operand.func 47), args := #[Go.Operand.tmp 11, Go.Operand.tmp 15], argTypes := #[23, 3] }, type := 3, pos := "sweep.go:118", after := #[{ on := 4, ground := Go.Ground.data }, { on := 8, ground := Go.Ground.data }], guard := none }) rfl (fun K hK => ?_) AllReadyH.nil)
    go_simp
    go_at_call 47
    with_reducible refine (c1 _).mono ?_
    rintro e w4 ⟨rfl, b⟩
    (try simp only [])
    replace is := is.below b
    replace hz : Hid _ := hz.out.below b
    clear b
    refine hK.out _ _ (HC.out _ _ _ is) (fun hS1 => ?_)
    (try simp only [Act.put, List.setIfInBounds_toArray, List.set_cons_zero, List.set_cons_succ])
    clear hK K
    refine wpAnyH_ready (rs := [10]) (by kernel_rfl) (by simp) (AllReadyH.cons (o := { dst := some 17, op := Go.Op.call { callee := Go.Callee.value (Go.Operand.func 46), args := #[Go.Operand.tmp 7, Go.Operand.tmp 16], argTypes := #[30, 3] }, type := 25, pos := "sweep.go:118", after := #[{ on := 0, ground := Go.Ground.data }, { on := 9, ground := Go.Ground.data }, { on := 9, ground := Go.Ground.chain }], guard := none }) rfl (fun K hK => ?_) AllReadyH.nil)
    go_simp
    go_at_call 46
    with_reducible refine (c0 _ is).mono ?_
    rintro e w5 ⟨rfl, i1, ho⟩
    (try simp only [])
    clear is
    have is := i1
    clear i1
    replace hz : Hid _ := hz.out.only ho
    clear ho
    refine hK.out _ _ (HC.out _ _ _ is) (fun hS1 => ?_)
    (try simp only [Act.put, List.setIfInBounds_toArray, List.set_cons_zero, List.set_cons_succ])
    clear hK K
    refine wpAnyH_ready (rs := [11]) (by kernel_rfl) (by simp) (AllReadyH.cons (o := { dst := some 18, op := Go.Op.call { callee := Go.Callee.value (Go.Operand.func 51), args := #[Go.Operand.tmp 17], argTypes := #[25] }, type := 44, pos := "sweep.go:118", after := #[{ on := 10, ground := Go.Ground.data }, { on := 10, ground := Go.Ground.chain }], guard := none }) rfl (fun K hK => ?_) AllReadyH.nil)
    go_simp
    go_at_call 51
    with_reducible refine (c3 _ is.wt).mono ?_
    rintro e w6 ⟨rfl, b⟩
    (try simp only [])
    replace is := is.below b
    replace hz : Hid _ := hz.out.below b
    clear b
    refine hK.out _ _ (HC.out _ _ _ is) (fun hS1 => ?_)
    (try simp only [Act.put, List.setIfInBounds_toArray, List.set_cons_zero, List.set_cons_succ])
    clear hK K
    refine wpAnyH_take (i := 12) (oi := { dst := some 6, op := Go.Op.move (Go.Operand.tmp 18), type := 44, pos := "sweep.go:118", after := #[{ on := 11, ground := Go.Ground.data }], guard := none }) (v := .tuple #[.agg #[.int .i64 3, .int .i64 m', .bool g', .int .i64 a', .int .i64 n', .int .i64 s'], .bool z']) rfl (by kernel_rfl) (by kernel_rfl) (by kernel_rfl) (fun _ _ _ h => h) (Or.inl ⟨by rfl, fun w hSw => by (try dsimp only at hSw); go_simp⟩) hS1 ?_
    simp only [Act.put, List.setIfInBounds_toArray, List.set_cons_zero, List.set_cons_succ]
    refine wpAnyH_take (i := 13) (oi := { dst := some 19, op := Go.Op.extract (Go.Operand.tmp 6) 0, type := 43, pos := "sweep.go:118", after := #[{ on := 12, ground := Go.Ground.data }], guard := none }) (v := .agg #[.int .i64 3, .int .i64 m', .bool g', .int .i64 a', .int .i64 n', .int .i64 s']) rfl (by kernel_rfl) (by kernel_rfl) (by kernel_rfl) (fun _ _ _ h => h) (Or.inl ⟨by rfl, fun w hSw => by (try dsimp only at hSw); go_simp⟩) hS1 ?_
    simp only [Act.put, List.setIfInBounds_toArray, List.set_cons_zero, List.set_cons_succ]
    refine wpAnyH_take (i := 14) (oi := { dst := some 20, op := Go.Op.extract (Go.Operand.tmp 6) 1, type := 4, pos := "sweep.go:118", after := #[{ on := 12, ground := Go.Ground.data }, { on := 16, ground := Go.Ground.gcOnly Go.Departure.lateStores }], guard := none }) (v := .bool z') rfl (by kernel_rfl) (by kernel_rfl) (by kernel_rfl) (fun _ _ _ h => h) (Or.inl ⟨by rfl, fun w hSw => by (try dsimp only at hSw); go_simp⟩) hS1 ?_
    simp only [Act.put, List.setIfInBounds_toArray, List.set_cons_zero, List.set_cons_succ]
    refine wpAnyH_ready (rs := [16]) (by kernel_rfl) (by simp) (AllReadyH.cons (o := { dst := none, op := Go.Op.store 43 (Go.Operand.tmp 4) (Go.Operand.tmp 19), type := 0, pos := "sweep.go:118", after := #[{ on := 15, ground := Go.Ground.data }, { on := 13, ground := Go.Ground.data }, { on := 11, ground := Go.Ground.chain }, { on := 0, ground := Go.Ground.phase }, { on := 1, ground := Go.Ground.phase }, { on := 2, ground := Go.Ground.phase }, { on := 3, ground := Go.Ground.phase }, { on := 4, ground := Go.Ground.phase }, { on := 5, ground := Go.Ground.phase }, { on := 6, ground := Go.Ground.phase }, { on := 7, ground := Go.Ground.phase }, { on := 8, ground := Go.Ground.phase }, { on := 9, ground := Go.Ground.phase }, { on := 10, ground := Go.Ground.phase }, { on := 11, ground := Go.Ground.phase }, { on := 12, ground := Go.Ground.phase }, { on := 13, ground := Go.Ground.phase }, { on := 14, ground := Go.Ground.textOnly Go.Departure.lateStores }, { on := 15, ground := Go.Ground.phase }], guard := none }) rfl (fun K hK => ?_) AllReadyH.nil)
    obtain ⟨⟨q0, q1, q2, q3, q4, q5⟩, y⟩ := hz.out.cells
    have y0 := y 0
    have y1 := y 1
    have y2 := y 2
    have y3 := y 3
    have y4 := y 4
    have y5 := y 5
    clear y
    go_simp
    replace is := is.six hz.out hws.out (.int .i64 3) (.int .i64 m') (.bool g') (.int .i64 a') (.int .i64 n') (.int .i64 s')
    have hg0 := hz.out.got0 3 m' g' a' n' s'
    refine hK.out _ _ (HC.out _ _ _ is) (fun hS1 => ?_)
    (try simp only [Act.put, List.setIfInBounds_toArray, List.set_cons_zero, List.set_cons_succ])
    clear hK K q0 q1 q2 q3 q4 q5 y0 y1 y2 y3 y4 y5 hz
    refine wpAnyH_take (i := 17) (oi := { dst := some 5, op := Go.Op.assign (Go.Operand.tmp 20), type := 4, pos := "sweep.go:118", after := #[{ on := 14, ground := Go.Ground.data }, { on := 16, ground := Go.Ground.chain }, { on := 0, ground := Go.Ground.phase }, { on := 1, ground := Go.Ground.phase }, { on := 2, ground := Go.Ground.phase }, { on := 3, ground := Go.Ground.phase }, { on := 4, ground := Go.Ground.phase }, { on := 5, ground := Go.Ground.phase }, { on := 6, ground := Go.Ground.phase }, { on := 7, ground := Go.Ground.phase }, { on := 8, ground := Go.Ground.phase }, { on := 9, ground := Go.Ground.phase }, { on := 10, ground := Go.Ground.phase }, { on := 11, ground := Go.Ground.phase }, { on := 12, ground := Go.Ground.phase }, { on := 13, ground := Go.Ground.phase }, { on := 14, ground := Go.Ground.phase }, { on := 15, ground := Go.Ground.phase }, { on := 16, ground := Go.Ground.phase }], guard := none }) (v := .bool z') rfl (by kernel_rfl) (by kernel_rfl) (by kernel_rfl) (fun _ _ _ h => h) (Or.inl ⟨by rfl, fun w hSw => by (try dsimp only at hSw); go_simp⟩) hS1 ?_
    simp only [Act.put, List.setIfInBounds_toArray, List.set_cons_zero, List.set_cons_succ]
    refine wpAnyH_done (by kernel_rfl) ?_ _
    clear hS1
    generalize (((((((w6.setCell ⟨R, 0, none⟩ (.int .i64 3)).setCell ⟨R, 1, none⟩ (.int .i64 m')).setCell ⟨R, 2, none⟩ (.bool g')).setCell ⟨R, 3, none⟩ (.int .i64 a')).setCell ⟨R, 4, none⟩ (.int .i64 n')).setCell ⟨R, 5, none⟩ (.int .i64 s'))) = wf at *
    go_upto_region 3 with fail
    clear hg0
    replace is := is.drew
    have hS0 := HC.out _ _ _ is
    refine wp_region_held_drew (S := fun wr => wr.cell? ⟨P, o + 2, none⟩ = some (.int .i64 (K.S : Nat)) ∧ wr.cell? ⟨P, o + 2 + 1, none⟩ = some (.int .i64 K.a) ∧ wr.cell? ⟨P, o + 2 + 2, none⟩ = some (.int .i64 (K.C : Nat)) ∧ wr.cell? ⟨P, o + 2 + 3, none⟩ = some (.int .i64 (K.D : Nat)) ∧ wr.cell? ⟨P, o + 2 + 4, none⟩ = some (.int .i64 K.g) ∧ wr.cell? ⟨P, o + 2 + 5, none⟩ = some (.int .i64 K.k) ∧ wr.cell? ⟨P, o + 9, none⟩ = some (.int .i64 (s : Nat))) (by kernel_rfl) hS0 (fun hS1 => ?_)
    clear hS0
    refine wpAnyH_take (i := 0) (oi := { dst := some 26, op := Go.Op.move (Go.Operand.tmp 0), type := 52, pos := "sweep.go:123", after := #[], guard := none }) (v := .pointer (some ⟨P, o, none⟩)) rfl (by kernel_rfl) (by kernel_rfl) (by kernel_rfl) (fun _ _ _ h => h) (Or.inl ⟨by rfl, fun w hSw => by (try dsimp only at hSw); go_simp⟩) hS1 ?_
    simp only [Act.put, List.setIfInBounds_toArray, List.set_cons_zero, List.set_cons_succ]
    refine wpAnyH_take (i := 1) (oi := { dst := some 27, op := Go.Op.move (Go.Operand.tmp 0), type := 52, pos := "sweep.go:123", after := #[], guard := none }) (v := .pointer (some ⟨P, o, none⟩)) rfl (by kernel_rfl) (by kernel_rfl) (by kernel_rfl) (fun _ _ _ h => h) (Or.inl ⟨by rfl, fun w hSw => by (try dsimp only at hSw); go_simp⟩) hS1 ?_
    simp only [Act.put, List.setIfInBounds_toArray, List.set_cons_zero, List.set_cons_succ]
    refine wpAnyH_take (i := 2) (oi := { dst := some 28, op := Go.Op.nilCheck (Go.Operand.tmp 27), type := 0, pos := "sweep.go:123", after := #[{ on := 1, ground := Go.Ground.data }], guard := none }) (v := .pointer (some ⟨P, o, none⟩)) rfl (by kernel_rfl) (by kernel_rfl) (by kernel_rfl) (fun _ _ _ h => h) (Or.inl ⟨by rfl, fun w hSw => by (try dsimp only at hSw); go_simp⟩) hS1 ?_
    simp only [Act.put, List.setIfInBounds_toArray, List.set_cons_zero, List.set_cons_succ]
    refine wpAnyH_take (i := 3) (oi := { dst := some 29, op := Go.Op.fieldAddr 63 (Go.Operand.tmp 28) 2, type := 0, pos := "sweep.go:123", after := #[{ on := 2, ground := Go.Ground.data }], guard := none }) (v := .pointer (some ⟨P, o + 2, none⟩)) rfl (by kernel_rfl) (by kernel_rfl) (by kernel_rfl) (fun _ _ _ h => h) (Or.inl ⟨by rfl, fun w hSw => by (try dsimp only at hSw); go_simp⟩) hS1 ?_
    simp only [Act.put, List.setIfInBounds_toArray, List.set_cons_zero, List.set_cons_succ]
    refine wpAnyH_take (i := 4) (oi := { dst := some 30, op := Go.Op.load 23 (Go.Operand.tmp 29), type := 23, pos := "sweep.go:123", after := #[{ on := 3, ground := Go.Ground.data }], guard := none }) (v := .agg #[.int .i64 (K.S : Nat), .int .i64 K.a, .int .i64 (K.C : Nat), .int .i64 (K.D : Nat), .int .i64 K.g, .int .i64 K.k]) rfl (by kernel_rfl) (by kernel_rfl) (by kernel_rfl) (fun _ _ _ h => h) (Or.inl ⟨by rfl, fun w hSw => by (try dsimp only at hSw); go_simp⟩) hS1 ?_
    simp only [Act.put, List.setIfInBounds_toArray, List.set_cons_zero, List.set_cons_succ]
    refine wpAnyH_take (i := 5) (oi := { dst := some 31, op := Go.Op.move (Go.Operand.tmp 0), type := 52, pos := "sweep.go:123", after := #[], guard := none }) (v := .pointer (some ⟨P, o, none⟩)) rfl (by kernel_rfl) (by kernel_rfl) (by kernel_rfl) (fun _ _ _ h => h) (Or.inl ⟨by rfl, fun w hSw => by (try dsimp only at hSw); go_simp⟩) hS1 ?_
    simp only [Act.put, List.setIfInBounds_toArray, List.set_cons_zero, List.set_cons_succ]
    refine wpAnyH_take (i := 6) (oi := { dst := some 32, op := Go.Op.nilCheck (Go.Operand.tmp 31), type := 0, pos := "sweep.go:123", after := #[{ on := 5, ground := Go.Ground.data }], guard := none }) (v := .pointer (some ⟨P, o, none⟩)) rfl (by kernel_rfl) (by kernel_rfl) (by kernel_rfl) (fun _ _ _ h => h) (Or.inl ⟨by rfl, fun w hSw => by (try dsimp only at hSw); go_simp⟩) hS1 ?_
    simp only [Act.put, List.setIfInBounds_toArray, List.set_cons_zero, List.set_cons_succ]
    refine wpAnyH_take (i := 7) (oi := { dst := some 33, op := Go.Op.fieldAddr 63 (Go.Operand.tmp 32) 4, type := 0, pos := "sweep.go:123", after := #[{ on := 6, ground := Go.Ground.data }], guard := none }) (v := .pointer (some ⟨P, o + 9, none⟩)) rfl (by kernel_rfl) (by kernel_rfl) (by kernel_rfl) (fun _ _ _ h => h) (Or.inl ⟨by rfl, fun w hSw => by (try dsimp only at hSw); go_simp⟩) hS1 ?_
    simp only [Act.put, List.setIfInBounds_toArray, List.set_cons_zero, List.set_cons_succ]
    refine wpAnyH_take (i := 8) (oi := { dst := some 34, op := Go.Op.load 3 (Go.Operand.tmp 33), type := 3, pos := "sweep.go:123", after := #[{ on := 7, ground := Go.Ground.data }], guard := none }) (v := .int .i64 (s : Nat)) rfl (by kernel_rfl) (by kernel_rfl) (by kernel_rfl) (fun _ _ _ h => h) (Or.inl ⟨by rfl, fun w hSw => by (try dsimp only at hSw); go_simp⟩) hS1 ?_
    simp only [Act.put, List.setIfInBounds_toArray, List.set_cons_zero, List.set_cons_succ]
    refine wpAnyH_ready (rs := [9]) (by kernel_rfl) (by simp) (AllReadyH.cons (o := { dst := some 35, op := Go.Op.call { callee := Go.Callee.value (Go.Operand.func 53), args := #[Go.Operand.tmp 30, Go.Operand.tmp 34], argTypes := #[23, 3] }, type := 97, pos := "sweep.go:123", after := #[{ on := 4, ground := Go.Ground.data }, { on := 8, ground := Go.Ground.data }], guard := none }) rfl (fun K hK => ?_) AllReadyH.nil)
    go_simp
    go_at_call 53
    with_reducible refine (c4 _).mono ?_
    rintro e wB ⟨Q, rfl, nb⟩
    (try simp only [])
    replace is := is.below nb.bel
    have hnb : Hid _ := nb.blk
    clear nb
    refine hK.out _ _ (HC.out _ _ _ is) (fun hS1 => ?_)
    (try simp only [Act.put, List.setIfInBounds_toArray, List.set_cons_zero, List.set_cons_succ])
    clear hK K
    refine wpAnyH_take (i := 10) (oi := { dst := some 36, op := Go.Op.nilCheck (Go.Operand.tmp 35), type := 0, pos := "sweep.go:123", after := #[{ on := 9, ground := Go.Ground.data }], guard := none }) (v := .pointer (some ⟨Q, 0, none⟩)) rfl (by kernel_rfl) (by kernel_rfl) (by kernel_rfl) (fun _ _ _ h => h) (Or.inl ⟨by rfl, fun w hSw => by (try dsimp only at hSw); go_simp⟩) hS1 ?_
    simp only [Act.put, List.setIfInBounds_toArray, List.set_cons_zero, List.set_cons_succ]
    refine wpAnyH_ready (rs := [11]) (by kernel_rfl) (by simp) (AllReadyH.cons (o := { dst := some 37, op := Go.Op.load 61 (Go.Operand.tmp 36), type := 61, pos := "sweep.go:123", after := #[{ on := 10, ground := Go.Ground.data }], guard := none }) rfl (fun K hK => ?_) AllReadyH.nil)
    obtain ⟨b0, b1, b2, b3, b4, b5, b6, b7, b8, b9, b10, b11, b12, b13, b14⟩ := blk15 hnb.out
    go_simp
    refine hK.out _ _ (HC.out _ _ _ is) (fun hS1 => ?_)
    (try simp only [Act.put, List.setIfInBounds_toArray, List.set_cons_zero, List.set_cons_succ])
    clear hK K b0 b1 b2 b3 b4 b5 b6 b7 b8 b9 b10 b11 b12 b13 b14 hnb
    refine wpAnyH_take (i := 12) (oi := { dst := some 38, op := Go.Op.nilCheck (Go.Operand.tmp 26), type := 0, pos := "sweep.go:123", after := #[{ on := 0, ground := Go.Ground.data }, { on := 0, ground := Go.Ground.phase }, { on := 1, ground := Go.Ground.phase }, { on := 2, ground := Go.Ground.phase }, { on := 3, ground := Go.Ground.phase }, { on := 4, ground := Go.Ground.phase }, { on := 5, ground := Go.Ground.phase }, { on := 6, ground := Go.Ground.phase }, { on := 7, ground := Go.Ground.phase }, { on := 8, ground := Go.Ground.phase }, { on := 9, ground := Go.Ground.phase }, { on := 10, ground := Go.Ground.phase }, { on := 11, ground := Go.Ground.phase }], guard := none }) (v := .pointer (some ⟨P, o, none⟩)) rfl (by kernel_rfl) (by kernel_rfl) (by kernel_rfl) (fun _ _ _ h => h) (Or.inl ⟨by rfl, fun w hSw => by (try dsimp only at hSw); go_simp⟩) hS1 ?_
    simp only [Act.put, List.setIfInBounds_toArray, List.set_cons_zero, List.set_cons_succ]
    refine wpAnyH_take (i := 13) (oi := { dst := some 39, op := Go.Op.fieldAddr 63 (Go.Operand.tmp 38) 5, type := 0, pos := "sweep.go:123", after := #[{ on := 12, ground := Go.Ground.data }, { on := 0, ground := Go.Ground.phase }, { on := 1, ground := Go.Ground.phase }, { on := 2, ground := Go.Ground.phase }, { on := 3, ground := Go.Ground.phase }, { on := 4, ground := Go.Ground.phase }, { on := 5, ground := Go.Ground.phase }, { on := 6, ground := Go.Ground.phase }, { on := 7, ground := Go.Ground.phase }, { on := 8, ground := Go.Ground.phase }, { on := 9, ground := Go.Ground.phase }, { on := 10, ground := Go.Ground.phase }, { on := 11, ground := Go.Ground.phase }], guard := none }) (v := .pointer (some ⟨P, o + 10, none⟩)) rfl (by kernel_rfl) (by kernel_rfl) (by kernel_rfl) (fun _ _ _ h => h) (Or.inl ⟨by rfl, fun w hSw => by (try dsimp only at hSw); go_simp⟩) hS1 ?_
    simp only [Act.put, List.setIfInBounds_toArray, List.set_cons_zero, List.set_cons_succ]
    refine wpAnyH_ready (rs := [14]) (by kernel_rfl) (by simp) (AllReadyH.cons (o := { dst := none, op := Go.Op.store 61 (Go.Operand.tmp 39) (Go.Operand.tmp 37), type := 0, pos := "sweep.go:123", after := #[{ on := 13, ground := Go.Ground.data }, { on := 11, ground := Go.Ground.data }, { on := 9, ground := Go.Ground.chain }, { on := 0, ground := Go.Ground.phase }, { on := 1, ground := Go.Ground.phase }, { on := 2, ground := Go.Ground.phase }, { on := 3, ground := Go.Ground.phase }, { on := 4, ground := Go.Ground.phase }, { on := 5, ground := Go.Ground.phase }, { on := 6, ground := Go.Ground.phase }, { on := 7, ground := Go.Ground.phase }, { on := 8, ground := Go.Ground.phase }, { on := 9, ground := Go.Ground.phase }, { on := 10, ground := Go.Ground.phase }, { on := 11, ground := Go.Ground.phase }], guard := none }) rfl (fun K hK => ?_) AllReadyH.nil)
    obtain ⟨y, t0, t1, t2, t3, t4, t5, t6, t7, t8, t9, t10, t11, t12, t13, t14⟩ := HT.out _ _ _ is
    have y0 := y (o + 10)
    have y1 := y (o + 10 + 1)
    have y2 := y (o + 10 + 2)
    have y3 := y (o + 10 + 3)
    have y4 := y (o + 10 + 4)
    have y5 := y (o + 10 + 5)
    have y6 := y (o + 10 + 6)
    have y7 := y (o + 10 + 7)
    have y8 := y (o + 10 + 8)
    have y9 := y (o + 10 + 9)
    have y10 := y (o + 10 + 10)
    have y11 := y (o + 10 + 11)
    have y12 := y (o + 10 + 12)
    have y13 := y (o + 10 + 13)
    have y14 := y (o + 10 + 14)
    clear y
    go_simp
    replace is := HP.out _ _ _ is
    refine hK.out _ _ (HR.out _ _ _ is) (fun hS1 => ?_)
    (try simp only [Act.put, List.setIfInBounds_toArray, List.set_cons_zero, List.set_cons_succ])
    clear hK K t0 y0 t1 y1 t2 y2 t3 y3 t4 y4 t5 y5 t6 y6 t7 y7 t8 y8 t9 y9 t10 y10 t11 y11 t12 y12 t13 y13 t14 y14
    refine wpAnyH_done (by kernel_rfl) ?_ _
    clear hS1
    generalize (((((((((((((((wB.setCell ⟨P, o + 10, none⟩ (.bool false)).setCell ⟨P, o + 10 + 1, none⟩ (.bool false)).setCell ⟨P, o + 10 + 2, none⟩ (.int .i64 (L : Nat))).setCell ⟨P, o + 10 + 3, none⟩ (.int .i64 K.g)).setCell ⟨P, o + 10 + 4, none⟩ (.int .i64 (K.S : Nat))).setCell ⟨P, o + 10 + 5, none⟩ (.int .i64 K.a)).setCell ⟨P, o + 10 + 6, none⟩ (.int .i64 (K.C : Nat))).setCell ⟨P, o + 10 + 7, none⟩ (.int .i64 (K.D : Nat))).setCell ⟨P, o + 10 + 8, none⟩ (.int .i64 K.g)).setCell ⟨P, o + 10 + 9, none⟩ (.int .i64 K.k)).setCell ⟨P, o + 10 + 10, none⟩ (.int .i64 (s : Nat))).setCell ⟨P, o + 10 + 11, none⟩ (.int .i64 0)).setCell ⟨P, o + 10 + 12, none⟩ (.int .u64 0)).setCell ⟨P, o + 10 + 13, none⟩ (.int .i64 0)).setCell ⟨P, o + 10 + 14, none⟩ (.int .u64 0)) = wg at *
    have l8 := is.cell N1.out.pc
    have f8 := is.free (o + 8)
    replace is := is.set (o + 8) (.int .i64 1)
    go_wp2
    go_end0
    exact ⟨rfl, _, is, N2.out, N3.out⟩
  

end Go.Proofs.YteechgmjaagbmabDoor
