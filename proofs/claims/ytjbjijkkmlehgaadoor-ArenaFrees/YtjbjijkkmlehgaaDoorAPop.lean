/- Contracts of package stack's Pop, wherever it lies in a block. -/
import Derived.Test.YtjbjijkkmlehgaaDoorAIn
namespace Go.Proofs.YtjbjijkkmlehgaaDoor
open Go.RowKit
open Mm (IsMem MS touched Only)
open Hh (WT)
open Tg (movedW)

/-- What a Pop holds. -/
structure PS where
  sl : Int
  em : Bool
  pc : Nat
  tp : Nat
  nx : Int
structure PoAt (c : Array Value) (o : Nat) (K : Cf) (p : PS) : Prop where
  sl : c[o]? = some (.int .i64 p.sl)
  em : c[o + 1]? = some (.bool p.em)
  k0 : c[o + 2]? = some (.int .i64 (K.S : Nat))
  k1 : c[o + 3]? = some (.int .i64 K.a)
  k2 : c[o + 4]? = some (.int .i64 (K.C : Nat))
  k3 : c[o + 5]? = some (.int .i64 (K.D : Nat))
  k4 : c[o + 6]? = some (.int .i64 K.g)
  k5 : c[o + 7]? = some (.int .i64 K.k)
  pc : c[o + 8]? = some (.int .i64 (p.pc : Nat))
  tp : c[o + 9]? = some (.int .u64 (p.tp : Nat))
  nx : c[o + 10]? = some (.int .i64 p.nx)
theorem PoAt.size {c : Array Value} {o : Nat} {K : Cf} {p : PS} (h : PoAt c o K p) : o + 10 < c.size := lt_get h.nx
theorem PoAt.same {c c' : Array Value} {o a b : Nat} {K : Cf} {p : PS} (h : PoAt c o K p) (s : Same c c' a b) (hab : b < o ∨ o + 10 < a) : PoAt c' o K p := by
  have e : ∀ i, i ≤ 10 → c'[o + i]? = c[o + i]? := fun i hi => s.out _ (by omega)
  exact ⟨(s.out o (by omega)).trans h.sl, (e 1 (by omega)).trans h.em, (e 2 (by omega)).trans h.k0, (e 3 (by omega)).trans h.k1, (e 4 (by omega)).trans h.k2, (e 5 (by omega)).trans h.k3, (e 6 (by omega)).trans h.k4, (e 7 (by omega)).trans h.k5, (e 8 (by omega)).trans h.pc, (e 9 (by omega)).trans h.tp, (e 10 (by omega)).trans h.nx⟩
theorem PoAt.put_sl {c : Array Value} {o : Nat} {K : Cf} {p : PS} (h : PoAt c o K p) (v : Int) : PoAt (c.setIfInBounds o (.int .i64 v)) o K { p with sl := v } := by
  have := h.size
  exact ⟨get_set (by omega), (get_set_ne (by omega)).trans h.em, (get_set_ne (by omega)).trans h.k0, (get_set_ne (by omega)).trans h.k1, (get_set_ne (by omega)).trans h.k2, (get_set_ne (by omega)).trans h.k3, (get_set_ne (by omega)).trans h.k4, (get_set_ne (by omega)).trans h.k5, (get_set_ne (by omega)).trans h.pc, (get_set_ne (by omega)).trans h.tp, (get_set_ne (by omega)).trans h.nx⟩
theorem PoAt.put_em {c : Array Value} {o : Nat} {K : Cf} {p : PS} (h : PoAt c o K p) (v : Bool) : PoAt (c.setIfInBounds (o + 1) (.bool v)) o K { p with em := v } := by
  have := h.size
  exact ⟨(get_set_ne (by omega)).trans h.sl, get_set (by omega), (get_set_ne (by omega)).trans h.k0, (get_set_ne (by omega)).trans h.k1, (get_set_ne (by omega)).trans h.k2, (get_set_ne (by omega)).trans h.k3, (get_set_ne (by omega)).trans h.k4, (get_set_ne (by omega)).trans h.k5, (get_set_ne (by omega)).trans h.pc, (get_set_ne (by omega)).trans h.tp, (get_set_ne (by omega)).trans h.nx⟩
theorem PoAt.put_pc {c : Array Value} {o : Nat} {K : Cf} {p : PS} (h : PoAt c o K p) (v : Nat) : PoAt (c.setIfInBounds (o + 8) (.int .i64 (v : Nat))) o K { p with pc := v } := by
  have := h.size
  exact ⟨(get_set_ne (by omega)).trans h.sl, (get_set_ne (by omega)).trans h.em, (get_set_ne (by omega)).trans h.k0, (get_set_ne (by omega)).trans h.k1, (get_set_ne (by omega)).trans h.k2, (get_set_ne (by omega)).trans h.k3, (get_set_ne (by omega)).trans h.k4, (get_set_ne (by omega)).trans h.k5, get_set (by omega), (get_set_ne (by omega)).trans h.tp, (get_set_ne (by omega)).trans h.nx⟩
theorem PoAt.put_tp {c : Array Value} {o : Nat} {K : Cf} {p : PS} (h : PoAt c o K p) (v : Nat) : PoAt (c.setIfInBounds (o + 9) (.int .u64 (v : Nat))) o K { p with tp := v } := by
  have := h.size
  exact ⟨(get_set_ne (by omega)).trans h.sl, (get_set_ne (by omega)).trans h.em, (get_set_ne (by omega)).trans h.k0, (get_set_ne (by omega)).trans h.k1, (get_set_ne (by omega)).trans h.k2, (get_set_ne (by omega)).trans h.k3, (get_set_ne (by omega)).trans h.k4, (get_set_ne (by omega)).trans h.k5, (get_set_ne (by omega)).trans h.pc, get_set (by omega), (get_set_ne (by omega)).trans h.nx⟩
theorem PoAt.put_nx {c : Array Value} {o : Nat} {K : Cf} {p : PS} (h : PoAt c o K p) (v : Int) : PoAt (c.setIfInBounds (o + 10) (.int .i64 v)) o K { p with nx := v } := by
  have := h.size
  exact ⟨(get_set_ne (by omega)).trans h.sl, (get_set_ne (by omega)).trans h.em, (get_set_ne (by omega)).trans h.k0, (get_set_ne (by omega)).trans h.k1, (get_set_ne (by omega)).trans h.k2, (get_set_ne (by omega)).trans h.k3, (get_set_ne (by omega)).trans h.k4, (get_set_ne (by omega)).trans h.k5, (get_set_ne (by omega)).trans h.pc, (get_set_ne (by omega)).trans h.tp, get_set (by omega)⟩

/-- A Pop's step on the words. -/
def popX (K : Cf) (X : List Nat) (p : PS) : List Nat × PS :=
  if p.pc = 0 then
    (X, ⟨p.sl, if fst K.S (X.getD 3 0) = -1 then true else p.em, if fst K.S (X.getD 3 0) = -1 then 3 else 1, X.getD 3 0, p.nx⟩)
  else if p.pc = 1 then
    (X, ⟨p.sl, p.em, 2, p.tp, nmd K.S (X.getD (K.lk (fst K.S p.tp).toNat) 0)⟩)
  else if p.pc = 2 then
    if X.getD 3 0 = p.tp then (X.set 3 (movedW p.tp p.nx), ⟨fst K.S p.tp, p.em, 3, p.tp, p.nx⟩)
    else (X, ⟨p.sl, p.em, 0, p.tp, p.nx⟩)
  else (X, p)
/-- What keeps a Pop's next step from falling. -/
structure PWf (K : Cf) (p : PS) : Prop where
  pc : p.pc ≤ 3
  tp : p.tp < 18446744073709551616
  one : p.pc = 1 → fst K.S p.tp ≠ -1
theorem movedW_lt (W : Nat) (s : Int) : movedW W s < 18446744073709551616 := by
  have := Tg.sl_le s
  unfold movedW
  omega
theorem fst_cases (S t : Nat) : fst S t = -1 ∨ ∃ s : Nat, s < S ∧ fst S t = (s : Int) ∧ t % 65536 = s + 1 := nmd_cases S _

/-- The cells that a Pop's own steps read. -/
theorem PoAt.rd {w wr : World} {M G N P : Nat} {X : List Nat} {T : Int} {c : Array Value} {t : TypeId} {o : Nat} {K : Cf} {p : PS} (h : PoAt c o K p) (is : InA w wr M G N X T P c t) :
    wr.cell? ⟨P, o + 2, none⟩ = some (.int .i64 (K.S : Nat)) ∧ wr.cell? ⟨P, o + 3, none⟩ = some (.int .i64 K.a) ∧ wr.cell? ⟨P, o + 4, none⟩ = some (.int .i64 (K.C : Nat)) ∧ wr.cell? ⟨P, o + 5, none⟩ = some (.int .i64 (K.D : Nat)) ∧ wr.cell? ⟨P, o + 6, none⟩ = some (.int .i64 K.g) ∧ wr.cell? ⟨P, o + 7, none⟩ = some (.int .i64 K.k) ∧ wr.cell? ⟨P, o + 9, none⟩ = some (.int .u64 (p.tp : Nat)) :=
  ⟨is.cell h.k0, is.cell h.k1, is.cell h.k2, is.cell h.k3, is.cell h.k4, is.cell h.k5, is.cell h.tp⟩

set_option maxHeartbeats 2000000 in
theorem loadTop_as {w : World} {M G N P o : Nat} {X : List Nat} {T : Int} {c : Array Value} {t : TypeId} {K : Cf} {p : PS} (is : InA w w M G N X T P c t) (hp : PoAt c o K p) (hT : T + 1 < 4611686018427387904) (hN : 4 ≤ N) {tw : Nat} (htw : X.getD 3 0 = tw) {f : Int}
    (c1 : ∀ w, Calls Tryd.prog 88 #[.agg (cs K.S K.a K.C K.D K.g K.k), .int .u64 (tw : Nat)] w fun e w' => e = .returned (.int .i64 f) ∧ Below w.heap.size w w') :
    Calls Tryd.prog 80 #[.pointer (some ⟨P, o, none⟩), .pointer (some ⟨M, 0, none⟩)] w fun r w' => r = .returned (.tuple #[]) ∧ ∃ c', InA w w' M G N X (T + 1) P c' t ∧ PoAt c' o K ⟨p.sl, if f = -1 then true else p.em, if f = -1 then 3 else 1, tw, p.nx⟩ ∧ Same c c' o (o + 10) := by
  have c0 := loadX (i := 3) is.mem (by rw [is.len]; omega) is.tb htw
  have htb := is.tb
  have hlen := is.len
  clear htw hN
  have p1 := hp.put_tp tw
  have p2 : PoAt ((c.setIfInBounds (o + 9) (.int .u64 (tw : Nat))).setIfInBounds (o + 8) (.int .i64 1)) o K ⟨p.sl, p.em, 1, tw, p.nx⟩ := p1.put_pc 1
  have s2 : Same c ((c.setIfInBounds (o + 9) (.int .u64 (tw : Nat))).setIfInBounds (o + 8) (.int .i64 1)) o (o + 10) := (Same.set c _ (by omega)).trans (Same.set _ _ (by omega))
  go_enter Tryd.func80, Tryd.ntmps80
  go_upto_region 1 with (go_at_call 50; refine c0.mono ?_; rintro e w1 ⟨rfl, hm, ho⟩; replace is := is.only hm ho hlen (by omega); have l9 := is.cell hp.tp; have f9 := is.free (o + 9))
  replace is := is.set (o + 9) (.int .u64 (tw : Nat))
  clear l9 f9 hm ho c0
  generalize w1.setCell ⟨P, o + 9, none⟩ (.int .u64 (tw : Nat)) = w2 at *
  have l8 := is.cell p1.pc
  have f8 := is.free (o + 8)
  go_upto_region 2 with fail
  replace is := is.set (o + 8) (.int .i64 1)
  clear l8 f8 p1 hp
  generalize w2.setCell ⟨P, o + 8, none⟩ (.int .i64 1) = w3 at *
  generalize (c.setIfInBounds (o + 9) (.int .u64 (tw : Nat))).setIfInBounds (o + 8) (.int .i64 1) = c2 at *
  replace is := is.drew
  go_region_held (fun wr => wr.cell? ⟨P, o + 2, none⟩ = some (.int .i64 (K.S : Nat)) ∧ wr.cell? ⟨P, o + 3, none⟩ = some (.int .i64 K.a) ∧ wr.cell? ⟨P, o + 4, none⟩ = some (.int .i64 (K.C : Nat)) ∧ wr.cell? ⟨P, o + 5, none⟩ = some (.int .i64 (K.D : Nat)) ∧ wr.cell? ⟨P, o + 6, none⟩ = some (.int .i64 K.g) ∧ wr.cell? ⟨P, o + 7, none⟩ = some (.int .i64 K.k) ∧ wr.cell? ⟨P, o + 9, none⟩ = some (.int .u64 (tw : Nat))) (with_reducible exact p2.rd is) (first
    | (go_at_call 88; with_reducible refine (c1 _).mono ?_; rintro e w4 ⟨rfl, b⟩; replace is := is.below b))
  clear c1 b
  by_cases hf : f = -1
  · subst hf
    have q1 := p2.put_em true
    have q2 := q1.put_pc 3
    have l1 := is.cell p2.em
    have f1 := is.free (o + 1)
    go_upto_region 4 with fail
    replace is := is.set (o + 1) (.bool true)
    clear l1 f1
    generalize w4.setCell ⟨P, o + 1, none⟩ (.bool true) = w5 at *
    have l8 := is.cell q1.pc
    have f8 := is.free (o + 8)
    go_wp2
    go_end0
    exact ⟨rfl, _, is.set (o + 8) (.int .i64 3), q2, s2.trans ((Same.set _ _ (by omega)).trans (Same.set _ _ (by omega)))⟩
  · have hf2 : (f == -1) = false := by simpa using hf
    go_wp2
    go_end0
    exact ⟨rfl, _, is, p2, s2⟩

set_option maxHeartbeats 2000000 in
theorem loadLink_as {w : World} {M G N P o : Nat} {X : List Nat} {T : Int} {c : Array Value} {t : TypeId} {K : Cf} {p : PS} (is : InA w w M G N X T P c t) (hp : PoAt c o K p) (hT : T + 1 < 4611686018427387904) {L v j : Nat} (hL : L < N) (hv : X.getD L 0 = v) {f : Int}
    (c1 : ∀ w, Calls Tryd.prog 88 #[.agg (cs K.S K.a K.C K.D K.g K.k), .int .u64 (p.tp : Nat)] w fun e w' => e = .returned (.int .i64 (j : Nat)) ∧ Below w.heap.size w w')
    (c2 : ∀ w, Calls Tryd.prog 37 #[.agg (cs K.S K.a K.C K.D K.g K.k), .int .i64 (j : Nat)] w fun e w' => e = .returned (.int .i64 (L : Nat)) ∧ Below w.heap.size w w')
    (c3 : ∀ w, Calls Tryd.prog 93 #[.agg (cs K.S K.a K.C K.D K.g K.k), .int .u64 (v : Nat)] w fun e w' => e = .returned (.int .i64 f) ∧ Below w.heap.size w w') :
    Calls Tryd.prog 81 #[.pointer (some ⟨P, o, none⟩), .pointer (some ⟨M, 0, none⟩)] w fun r w' => r = .returned (.tuple #[]) ∧ ∃ c', InA w w' M G N X (T + 1) P c' t ∧ PoAt c' o K ⟨p.sl, p.em, 2, p.tp, f⟩ ∧ Same c c' o (o + 10) := by
  have htb := is.tb
  have hlen := is.len
  have c0 : ∀ wr, InA w wr M G N X T P c t → Calls Tryd.prog 50 #[.pointer (some ⟨M, 0, none⟩), .int .i64 (L : Nat)] wr fun e w' => e = .returned (.int .u64 (v : Nat)) ∧ InA w w' M G N X (T + 1) P c t := fun wr x =>
    (loadX x.mem (by rw [hlen]; exact hL) htb hv).mono fun e w' ⟨h1, h2, h3⟩ => ⟨h1, x.only h2 h3 hlen (by omega)⟩
  clear hL hv
  have q1 := hp.put_nx f
  have q2 := q1.put_pc 2
  have hrd := fun wr T (x : InA w wr M G N X T P c t) => hp.rd x
  have hset := fun wr T (x : InA w wr M G N X T P c t) => q1.rd (x.set (o + 10) (.int .i64 f))
  have hnx := fun wr T (x : InA w wr M G N X T P c t) => (⟨x.cell hp.nx, x.free (o + 10)⟩ : _ ∧ _)
  have s2 : Same c ((c.setIfInBounds (o + 10) (.int .i64 f)).setIfInBounds (o + 8) (.int .i64 2)) o (o + 10) := (Same.set c _ (by omega)).trans (Same.set _ _ (by omega))
  obtain ⟨sl, em, pc, tp, nx⟩ := p
  simp only at *
  go_enter Tryd.func81, Tryd.ntmps81
  go_upto_region 0 with fail
  replace is := is.drew
  obtain ⟨l10, f10⟩ := hnx _ _ is
  go_region_held (fun wr => wr.cell? ⟨P, o + 2, none⟩ = some (.int .i64 (K.S : Nat)) ∧ wr.cell? ⟨P, o + 3, none⟩ = some (.int .i64 K.a) ∧ wr.cell? ⟨P, o + 4, none⟩ = some (.int .i64 (K.C : Nat)) ∧ wr.cell? ⟨P, o + 5, none⟩ = some (.int .i64 (K.D : Nat)) ∧ wr.cell? ⟨P, o + 6, none⟩ = some (.int .i64 K.g) ∧ wr.cell? ⟨P, o + 7, none⟩ = some (.int .i64 K.k) ∧ wr.cell? ⟨P, o + 9, none⟩ = some (.int .u64 (tp : Nat))) (first | (with_reducible exact hrd _ _ is) | (with_reducible exact hset _ _ is)) (first
    | (go_at_call 88; with_reducible refine (c1 _).mono ?_; rintro e w3 ⟨rfl, b⟩; replace is := is.below b; clear l10 f10; obtain ⟨l10, f10⟩ := hnx _ _ is)
    | (go_at_call 37; with_reducible refine (c2 _).mono ?_; rintro e w3 ⟨rfl, b⟩; replace is := is.below b; clear l10 f10; obtain ⟨l10, f10⟩ := hnx _ _ is)
    | (go_at_call 50; with_reducible refine (c0 _ is).mono ?_; rintro e w3 ⟨rfl, i1⟩; clear is l10 f10; have is := i1; clear i1; obtain ⟨l10, f10⟩ := hnx _ _ is)
    | (go_at_call 93; with_reducible refine (c3 _).mono ?_; rintro e w3 ⟨rfl, b⟩; replace is := is.below b; clear l10 f10; obtain ⟨l10, f10⟩ := hnx _ _ is))
  have i2 := is.set (o + 10) (.int .i64 f)
  have l8 := i2.cell q1.pc
  have f8 := i2.free (o + 8)
  clear hset hrd hnx is c0 c1 c2 c3 b l10 f10
  go_upto_region 1 with fail
  generalize w3.setCell ⟨P, o + 10, none⟩ (.int .i64 f) = w5 at *
  go_wp2
  go_end0
  exact ⟨rfl, _, i2.set (o + 8) (.int .i64 2), q2, s2⟩

/-- The cells that a Pop's swap reads. -/
theorem PoAt.rd2 {w wr : World} {M G N P : Nat} {X : List Nat} {T : Int} {c : Array Value} {t : TypeId} {o : Nat} {K : Cf} {p : PS} (h : PoAt c o K p) (is : InA w wr M G N X T P c t) :
    wr.cell? ⟨P, o + 9, none⟩ = some (.int .u64 (p.tp : Nat)) ∧ wr.cell? ⟨P, o + 10, none⟩ = some (.int .i64 p.nx) := ⟨is.cell h.tp, is.cell h.nx⟩

set_option maxHeartbeats 2000000 in
theorem swapTop_yes {w : World} {M G N P o : Nat} {X : List Nat} {T : Int} {c : Array Value} {t : TypeId} {K : Cf} {p : PS} (is : InA w w M G N X T P c t) (hp : PoAt c o K p) (hT : T + 1 < 4611686018427387904) (hN : 4 ≤ N) (htw : X.getD 3 0 = p.tp) {V : Nat} (hV : V < 18446744073709551616) {f : Int}
    (c1 : ∀ w, Calls Tryd.prog 95 #[.int .u64 (p.tp : Nat), .int .i64 p.nx] w fun e w' => e = .returned (.int .u64 (V : Nat)) ∧ Below w.heap.size w w')
    (c2 : ∀ w, Calls Tryd.prog 88 #[.agg (cs K.S K.a K.C K.D K.g K.k), .int .u64 (p.tp : Nat)] w fun e w' => e = .returned (.int .i64 f) ∧ Below w.heap.size w w') :
    Calls Tryd.prog 82 #[.pointer (some ⟨P, o, none⟩), .pointer (some ⟨M, 0, none⟩)] w fun r w' => r = .returned (.tuple #[]) ∧ ∃ c', InA w w' M G N (X.set 3 V) (T + 1) P c' t ∧ PoAt c' o K ⟨f, p.em, 3, p.tp, p.nx⟩ ∧ Same c c' o (o + 10) := by
  have htb := is.tb
  have hlen := is.len
  have c0 : ∀ wr c, InA w wr M G N X T P c t → Calls Tryd.prog 94 #[.pointer (some ⟨M, 0, none⟩), .int .i64 3, .int .u64 (p.tp : Nat), .int .u64 (V : Nat)] wr fun e w' => e = .returned (.bool true) ∧ InA w w' M G N (X.set 3 V) (T + 1) P c t := fun wr c x =>
    (swapX_yes (i := 3) x.mem (by rw [hlen]; omega) hV htw htb).mono fun e w' ⟨h1, h2, h3⟩ => ⟨h1, x.only h2 h3 (by rw [List.length_set]; exact hlen) (by omega)⟩
  clear htw hN hV
  have q1 : PoAt (c.setIfInBounds (o + 8) (.int .i64 0)) o K ⟨p.sl, p.em, 0, p.tp, p.nx⟩ := hp.put_pc 0
  have s1 : Same c (c.setIfInBounds (o + 8) (.int .i64 0)) o (o + 10) := Same.set c _ (by omega)
  have l8 := is.cell hp.pc
  have f8 := is.free (o + 8)
  replace is := is.set (o + 8) (.int .i64 0)
  clear hp
  obtain ⟨sl, em, pc, tp, nx⟩ := p
  simp only at *
  go_enter Tryd.func82, Tryd.ntmps82
  go_upto_region 1 with fail
  clear l8 f8
  generalize w.setCell ⟨P, o + 8, none⟩ (.int .i64 0) = w2 at *
  generalize c.setIfInBounds (o + 8) (.int .i64 0) = c9 at *
  replace is := is.drew
  have hrd := fun wr X T (x : InA w wr M G N X T P c9 t) => q1.rd x
  have hrd2 := fun wr X T (x : InA w wr M G N X T P c9 t) => q1.rd2 x
  simp only at hrd hrd2
  have q2 := q1.put_sl f
  have hset := fun wr X T (x : InA w wr M G N X T P c9 t) => q2.rd (x.set o (.int .i64 f))
  simp only at hset
  have hsl := fun wr X T (x : InA w wr M G N X T P c9 t) => (⟨x.cell q1.sl, x.free o⟩ : _ ∧ _)
  have q3 := q2.put_pc 3
  go_region_held (fun w' => w'.cell? ⟨P, o + 9, none⟩ = some (.int .u64 (tp : Nat)) ∧ w'.cell? ⟨P, o + 10, none⟩ = some (.int .i64 nx)) (with_reducible exact hrd2 _ _ _ is) (first
    | (go_at_call 95; with_reducible refine (c1 _).mono ?_; rintro e w3 ⟨rfl, b⟩; replace is := is.below b)
    | (go_at_call 94; with_reducible refine (c0 _ _ is).mono ?_; rintro e w3 ⟨rfl, i1⟩; clear is; have is := i1; clear i1))
  go_upto_region 2 with fail
  replace is := is.drew
  obtain ⟨l0, f0⟩ := hsl _ _ _ is
  go_region_held (fun wr => wr.cell? ⟨P, o + 2, none⟩ = some (.int .i64 (K.S : Nat)) ∧ wr.cell? ⟨P, o + 3, none⟩ = some (.int .i64 K.a) ∧ wr.cell? ⟨P, o + 4, none⟩ = some (.int .i64 (K.C : Nat)) ∧ wr.cell? ⟨P, o + 5, none⟩ = some (.int .i64 (K.D : Nat)) ∧ wr.cell? ⟨P, o + 6, none⟩ = some (.int .i64 K.g) ∧ wr.cell? ⟨P, o + 7, none⟩ = some (.int .i64 K.k) ∧ wr.cell? ⟨P, o + 9, none⟩ = some (.int .u64 (tp : Nat))) (first | (with_reducible exact hrd _ _ _ is) | (with_reducible exact hset _ _ _ is)) (first
    | (go_at_call 88; with_reducible refine (c2 _).mono ?_; rintro e w4 ⟨rfl, b⟩; replace is := is.below b; clear l0 f0; obtain ⟨l0, f0⟩ := hsl _ _ _ is))
  have i2 := is.set o (.int .i64 f)
  have l8 := i2.cell q2.pc
  have f8 := i2.free (o + 8)
  clear hset hrd hrd2 hsl is c0 c1 c2 l0 f0
  go_upto_region 3 with fail
  generalize w4.setCell ⟨P, o, none⟩ (.int .i64 f) = w5 at *
  go_wp2
  go_end0
  exact ⟨rfl, _, i2.set (o + 8) (.int .i64 3), q3, s1.trans ((Same.set _ _ (by omega)).trans (Same.set _ _ (by omega)))⟩

set_option maxHeartbeats 2000000 in
theorem swapTop_no {w : World} {M G N P o : Nat} {X : List Nat} {T : Int} {c : Array Value} {t : TypeId} {K : Cf} {p : PS} (is : InA w w M G N X T P c t) (hp : PoAt c o K p) (hT : T + 1 < 4611686018427387904) (hN : 4 ≤ N) (htw : X.getD 3 0 ≠ p.tp) {V : Nat}
    (c1 : ∀ w, Calls Tryd.prog 95 #[.int .u64 (p.tp : Nat), .int .i64 p.nx] w fun e w' => e = .returned (.int .u64 (V : Nat)) ∧ Below w.heap.size w w') :
    Calls Tryd.prog 82 #[.pointer (some ⟨P, o, none⟩), .pointer (some ⟨M, 0, none⟩)] w fun r w' => r = .returned (.tuple #[]) ∧ ∃ c', InA w w' M G N X (T + 1) P c' t ∧ PoAt c' o K ⟨p.sl, p.em, 0, p.tp, p.nx⟩ ∧ Same c c' o (o + 10) := by
  have htb := is.tb
  have hlen := is.len
  have c0 : ∀ wr c, InA w wr M G N X T P c t → Calls Tryd.prog 94 #[.pointer (some ⟨M, 0, none⟩), .int .i64 3, .int .u64 (p.tp : Nat), .int .u64 (V : Nat)] wr fun e w' => e = .returned (.bool false) ∧ InA w w' M G N X (T + 1) P c t := fun wr c x =>
    (swapX_no (i := 3) x.mem (by rw [hlen]; omega) htw htb).mono fun e w' ⟨h1, h2, h3⟩ => ⟨h1, x.only h2 h3 hlen (by omega)⟩
  clear htw hN
  have q1 : PoAt (c.setIfInBounds (o + 8) (.int .i64 0)) o K ⟨p.sl, p.em, 0, p.tp, p.nx⟩ := hp.put_pc 0
  have s1 : Same c (c.setIfInBounds (o + 8) (.int .i64 0)) o (o + 10) := Same.set c _ (by omega)
  have l8 := is.cell hp.pc
  have f8 := is.free (o + 8)
  replace is := is.set (o + 8) (.int .i64 0)
  clear hp
  obtain ⟨sl, em, pc, tp, nx⟩ := p
  simp only at *
  go_enter Tryd.func82, Tryd.ntmps82
  go_upto_region 1 with fail
  clear l8 f8
  generalize w.setCell ⟨P, o + 8, none⟩ (.int .i64 0) = w2 at *
  generalize c.setIfInBounds (o + 8) (.int .i64 0) = c9 at *
  replace is := is.drew
  have hrd2 := fun wr X T (x : InA w wr M G N X T P c9 t) => q1.rd2 x
  simp only at hrd2
  go_region_held (fun w' => w'.cell? ⟨P, o + 9, none⟩ = some (.int .u64 (tp : Nat)) ∧ w'.cell? ⟨P, o + 10, none⟩ = some (.int .i64 nx)) (with_reducible exact hrd2 _ _ _ is) (first
    | (go_at_call 95; with_reducible refine (c1 _).mono ?_; rintro e w3 ⟨rfl, b⟩; replace is := is.below b)
    | (go_at_call 94; with_reducible refine (c0 _ _ is).mono ?_; rintro e w3 ⟨rfl, i1⟩; clear is; have is := i1; clear i1))
  clear hrd2 c0 c1
  go_wp2
  go_end0
  exact ⟨rfl, _, is, q1, s1⟩

set_option maxHeartbeats 1000000 in
theorem pop_call {w : World} {M G N P o : Nat} {X X' : List Nat} {T T' : Int} {c : Array Value} {t : TypeId} {K : Cf} {p p' : PS} {fn : Nat} (is : InA w w M G N X T P c t) (hp : PoAt c o K p) (h1 : p.pc = 0 ∧ fn = 80 ∨ p.pc = 1 ∧ fn = 81 ∨ p.pc = 2 ∧ fn = 82)
    (c0 : Calls Tryd.prog fn #[.pointer (some ⟨P, o, none⟩), .pointer (some ⟨M, 0, none⟩)] w fun r w' => r = .returned (.tuple #[]) ∧ ∃ c', InA w w' M G N X' T' P c' t ∧ PoAt c' o K p' ∧ Same c c' o (o + 10)) :
    Calls Tryd.prog 67 #[.pointer (some ⟨P, o, none⟩), .pointer (some ⟨M, 0, none⟩)] w fun r w' => r = .returned (.bool (decide (p'.pc = 3))) ∧ ∃ c', InA w w' M G N X' T' P c' t ∧ PoAt c' o K p' ∧ Same c c' o (o + 10) := by
  have l8 := is.cell hp.pc
  have hd : ((p'.pc : Int) == 3) = decide (p'.pc = 3) := by by_cases e : p'.pc = 3 <;> simp [e]; omega
  rw [← hd]
  rcases h1 with ⟨h1, rfl⟩ | ⟨h1, rfl⟩ | ⟨h1, rfl⟩
  · rw [h1] at l8
    clear hp hd h1 is
    go_enter Tryd.func67, Tryd.ntmps67
    go_wp2_with (go_at_call 80; refine c0.mono ?_; rintro e w1 ⟨rfl, c1, i1, p1, s1⟩; have m8 := i1.cell p1.pc)
    go_ret
    exact ⟨rfl, c1, i1, p1, s1⟩
  · rw [h1] at l8
    clear hp hd h1 is
    go_enter Tryd.func67, Tryd.ntmps67
    go_wp2_with (go_at_call 81; refine c0.mono ?_; rintro e w1 ⟨rfl, c1, i1, p1, s1⟩; have m8 := i1.cell p1.pc)
    go_ret
    exact ⟨rfl, c1, i1, p1, s1⟩
  · rw [h1] at l8
    clear hp hd h1 is
    go_enter Tryd.func67, Tryd.ntmps67
    go_wp2_with (go_at_call 82; refine c0.mono ?_; rintro e w1 ⟨rfl, c1, i1, p1, s1⟩; have m8 := i1.cell p1.pc)
    go_ret
    exact ⟨rfl, c1, i1, p1, s1⟩

/-- A Pop's step. -/
theorem pop_any {w : World} {M G P o : Nat} {X : List Nat} {T : Int} {c : Array Value} {t : TypeId} {K : Cf} {p : PS} (hK : K.Ok) (is : InA w w M G K.N X T P c t) (hp : PoAt c o K p) (hw : PWf K p) (h2 : p.pc ≤ 2) (hT : T + 1 < 4611686018427387904) :
    Calls Tryd.prog 67 #[.pointer (some ⟨P, o, none⟩), .pointer (some ⟨M, 0, none⟩)] w fun r w' => r = .returned (.bool (decide ((popX K X p).2.pc = 3))) ∧ ∃ c', InA w w' M G K.N (popX K X p).1 (T + 1) P c' t ∧ PoAt c' o K (popX K X p).2 ∧ Same c c' o (o + 10) := by
  have hN := hK.N_b
  have hX := fun i => is.mem.fits i
  have h3 : p.pc = 0 ∨ p.pc = 1 ∨ p.pc = 2 := by omega
  rcases h3 with h | h | h
  · have e : popX K X p = (X, ⟨p.sl, if fst K.S (X.getD 3 0) = -1 then true else p.em, if fst K.S (X.getD 3 0) = -1 then 3 else 1, X.getD 3 0, p.nx⟩) := by unfold popX; rw [if_pos h]
    rw [e]
    exact pop_call is hp (.inl ⟨h, rfl⟩) (loadTop_as is hp hT (by omega) rfl (first_any K.S hK.s64 K.a K.C K.D K.g K.k (X.getD 3 0) (hX 3)))
  · rcases fst_cases K.S p.tp with h0 | ⟨s, hs, h0, _⟩
    · exact absurd h0 (hw.one h)
    · have e : popX K X p = (X, ⟨p.sl, p.em, 2, p.tp, nmd K.S (X.getD (K.lk s) 0)⟩) := by unfold popX; rw [if_neg (by omega), if_pos h, h0]; rfl
      rw [e]
      have c1 := first_any K.S hK.s64 K.a K.C K.D K.g K.k p.tp hw.tp
      rw [h0] at c1
      exact pop_call is hp (.inr (.inl ⟨h, rfl⟩)) (loadLink_as is hp hT (hK.lk_lt hs) rfl c1 (link_any hK s hs) (named_any K.S hK.s64 K.a K.C K.D K.g K.k (X.getD (K.lk s) 0) (hX _)))
  · have c1 := Tg.moved_any p.tp p.nx hw.tp
    by_cases hv : X.getD 3 0 = p.tp
    · have e : popX K X p = (X.set 3 (movedW p.tp p.nx), ⟨fst K.S p.tp, p.em, 3, p.tp, p.nx⟩) := by unfold popX; rw [if_neg (by omega), if_neg (by omega), if_pos h, if_pos hv]
      rw [e]
      exact pop_call is hp (.inr (.inr ⟨h, rfl⟩)) (swapTop_yes is hp hT (by omega) hv (movedW_lt _ _) c1 (first_any K.S hK.s64 K.a K.C K.D K.g K.k p.tp hw.tp))
    · have e : popX K X p = (X, ⟨p.sl, p.em, 0, p.tp, p.nx⟩) := by unfold popX; rw [if_neg (by omega), if_neg (by omega), if_pos h, if_neg hv]
      rw [e]
      exact pop_call is hp (.inr (.inr ⟨h, rfl⟩)) (swapTop_no is hp hT (by omega) hv c1)
end Go.Proofs.YtjbjijkkmlehgaaDoor
