/- Contracts of package stack's Push, wherever it lies in a block. -/
import Derived.Test.YteechgmjaagbmabDoorAPop
namespace Go.Proofs.YteechgmjaagbmabDoor
open Go.RowKit
open Mm (IsMem MS touched Only)
open Hh (WT)
open Tg (movedW)

/-- What a Push holds. -/
structure QS where
  sl : Nat
  pc : Nat
  tp : Nat
structure PuAt (c : Array Value) (o : Nat) (K : Cf) (q : QS) : Prop where
  k0 : c[o]? = some (.int .i64 (K.S : Nat))
  k1 : c[o + 1]? = some (.int .i64 K.a)
  k2 : c[o + 2]? = some (.int .i64 (K.C : Nat))
  k3 : c[o + 3]? = some (.int .i64 (K.D : Nat))
  k4 : c[o + 4]? = some (.int .i64 K.g)
  k5 : c[o + 5]? = some (.int .i64 K.k)
  sl : c[o + 6]? = some (.int .i64 (q.sl : Nat))
  pc : c[o + 7]? = some (.int .i64 (q.pc : Nat))
  tp : c[o + 8]? = some (.int .u64 (q.tp : Nat))
theorem PuAt.size {c : Array Value} {o : Nat} {K : Cf} {q : QS} (h : PuAt c o K q) : o + 8 < c.size := lt_get h.tp
theorem PuAt.same {c c' : Array Value} {o a b : Nat} {K : Cf} {q : QS} (h : PuAt c o K q) (s : Same c c' a b) (hab : b < o ∨ o + 8 < a) : PuAt c' o K q := by
  have e : ∀ i, i ≤ 8 → c'[o + i]? = c[o + i]? := fun i hi => s.out _ (by omega)
  exact ⟨(s.out o (by omega)).trans h.k0, (e 1 (by omega)).trans h.k1, (e 2 (by omega)).trans h.k2, (e 3 (by omega)).trans h.k3, (e 4 (by omega)).trans h.k4, (e 5 (by omega)).trans h.k5, (e 6 (by omega)).trans h.sl, (e 7 (by omega)).trans h.pc, (e 8 (by omega)).trans h.tp⟩
theorem PuAt.put_pc {c : Array Value} {o : Nat} {K : Cf} {q : QS} (h : PuAt c o K q) (v : Nat) : PuAt (c.setIfInBounds (o + 7) (.int .i64 (v : Nat))) o K { q with pc := v } := by
  have := h.size
  exact ⟨(get_set_ne (by omega)).trans h.k0, (get_set_ne (by omega)).trans h.k1, (get_set_ne (by omega)).trans h.k2, (get_set_ne (by omega)).trans h.k3, (get_set_ne (by omega)).trans h.k4, (get_set_ne (by omega)).trans h.k5, (get_set_ne (by omega)).trans h.sl, get_set (by omega), (get_set_ne (by omega)).trans h.tp⟩
theorem PuAt.put_tp {c : Array Value} {o : Nat} {K : Cf} {q : QS} (h : PuAt c o K q) (v : Nat) : PuAt (c.setIfInBounds (o + 8) (.int .u64 (v : Nat))) o K { q with tp := v } := by
  have := h.size
  exact ⟨(get_set_ne (by omega)).trans h.k0, (get_set_ne (by omega)).trans h.k1, (get_set_ne (by omega)).trans h.k2, (get_set_ne (by omega)).trans h.k3, (get_set_ne (by omega)).trans h.k4, (get_set_ne (by omega)).trans h.k5, (get_set_ne (by omega)).trans h.sl, (get_set_ne (by omega)).trans h.pc, get_set (by omega)⟩
/-- A Push's step on the words. -/
def pushX (K : Cf) (X : List Nat) (q : QS) : List Nat × QS :=
  if q.pc = 0 then (X, ⟨q.sl, 1, X.getD 3 0⟩)
  else if q.pc = 1 then (X.set (K.lk q.sl) (fst K.S q.tp + 1).toNat, ⟨q.sl, 2, q.tp⟩)
  else if q.pc = 2 then
    if X.getD 3 0 = q.tp then (X.set 3 (movedW q.tp q.sl), ⟨q.sl, 3, q.tp⟩)
    else (X, ⟨q.sl, 0, q.tp⟩)
  else (X, q)
structure QWf (K : Cf) (q : QS) : Prop where
  pc : q.pc ≤ 3
  tp : q.tp < 18446744073709551616
  sl : q.sl < K.S
theorem PuAt.rd {w wr : World} {M G N P : Nat} {X : List Nat} {T : Int} {c : Array Value} {t : TypeId} {o : Nat} {K : Cf} {q : QS} (h : PuAt c o K q) (is : InA w wr M G N X T P c t) :
    wr.cell? ⟨P, o, none⟩ = some (.int .i64 (K.S : Nat)) ∧ wr.cell? ⟨P, o + 1, none⟩ = some (.int .i64 K.a) ∧ wr.cell? ⟨P, o + 2, none⟩ = some (.int .i64 (K.C : Nat)) ∧ wr.cell? ⟨P, o + 3, none⟩ = some (.int .i64 (K.D : Nat)) ∧ wr.cell? ⟨P, o + 4, none⟩ = some (.int .i64 K.g) ∧ wr.cell? ⟨P, o + 5, none⟩ = some (.int .i64 K.k) ∧ wr.cell? ⟨P, o + 6, none⟩ = some (.int .i64 (q.sl : Nat)) ∧ wr.cell? ⟨P, o + 8, none⟩ = some (.int .u64 (q.tp : Nat)) :=
  ⟨is.cell h.k0, is.cell h.k1, is.cell h.k2, is.cell h.k3, is.cell h.k4, is.cell h.k5, is.cell h.sl, is.cell h.tp⟩
theorem PuAt.rd2 {w wr : World} {M G N P : Nat} {X : List Nat} {T : Int} {c : Array Value} {t : TypeId} {o : Nat} {K : Cf} {q : QS} (h : PuAt c o K q) (is : InA w wr M G N X T P c t) :
    wr.cell? ⟨P, o + 6, none⟩ = some (.int .i64 (q.sl : Nat)) ∧ wr.cell? ⟨P, o + 8, none⟩ = some (.int .u64 (q.tp : Nat)) := ⟨is.cell h.sl, is.cell h.tp⟩

set_option maxHeartbeats 2000000 in
theorem pstep_0 {w : World} {M G N P o : Nat} {X : List Nat} {T : Int} {c : Array Value} {t : TypeId} {K : Cf} {q : QS} (is : InA w w M G N X T P c t) (hp : PuAt c o K q) (h0 : q.pc = 0) (hT : T + 1 < 4611686018427387904) (hN : 4 ≤ N) {tw : Nat} (htw : X.getD 3 0 = tw) :
    Calls Tryd.prog 77 #[.pointer (some ⟨P, o, none⟩), .pointer (some ⟨M, 0, none⟩)] w fun r w' => r = .returned (.bool false) ∧ ∃ c', InA w w' M G N X (T + 1) P c' t ∧ PuAt c' o K ⟨q.sl, 1, tw⟩ ∧ Same c c' o (o + 8) := by
  have c0 := loadX (i := 3) is.mem (by rw [is.len]; omega) is.tb htw
  have htb := is.tb
  have hlen := is.len
  clear htw hN
  have p1 := hp.put_tp tw
  have p2 : PuAt ((c.setIfInBounds (o + 8) (.int .u64 (tw : Nat))).setIfInBounds (o + 7) (.int .i64 1)) o K ⟨q.sl, 1, tw⟩ := p1.put_pc 1
  have s2 : Same c ((c.setIfInBounds (o + 8) (.int .u64 (tw : Nat))).setIfInBounds (o + 7) (.int .i64 1)) o (o + 8) := (Same.set c _ (by omega)).trans (Same.set _ _ (by omega))
  have l7 := is.cell hp.pc
  rw [h0] at l7
  go_enter Tryd.func77, Tryd.ntmps77
  go_upto_region 6 with (go_at_call 46; refine c0.mono ?_; rintro e w1 ⟨rfl, hm, ho⟩; replace is := is.only hm ho hlen (by omega); have l8 := is.cell hp.tp; have f8 := is.free (o + 8))
  replace is := is.set (o + 8) (.int .u64 (tw : Nat))
  clear l7 l8 f8 hm ho c0
  generalize w1.setCell ⟨P, o + 8, none⟩ (.int .u64 (tw : Nat)) = w2 at *
  have l7 := is.cell p1.pc
  have f7 := is.free (o + 7)
  go_upto_region 12 with fail
  replace is := is.set (o + 7) (.int .i64 1)
  clear l7 f7 p1 hp
  generalize w2.setCell ⟨P, o + 7, none⟩ (.int .i64 1) = w3 at *
  have l7 := is.cell p2.pc
  go_wp2
  go_ret
  exact ⟨rfl, _, is, p2, s2⟩

set_option maxHeartbeats 2000000 in
theorem pstep_1 {w : World} {M G N P o : Nat} {X : List Nat} {T : Int} {c : Array Value} {t : TypeId} {K : Cf} {q : QS} (is : InA w w M G N X T P c t) (hp : PuAt c o K q) (h0 : q.pc = 1) (hT : T + 1 < 4611686018427387904) {L F : Nat} (hL : L < N) (hF : F ≤ 64)
    (c1 : ∀ w, Calls Tryd.prog 75 #[.agg (cs K.S K.a K.C K.D K.g K.k), .int .i64 (q.sl : Nat)] w fun e w' => e = .returned (.int .i64 (L : Nat)) ∧ Below w.heap.size w w')
    (c2 : ∀ w, Calls Tryd.prog 82 #[.agg (cs K.S K.a K.C K.D K.g K.k), .int .u64 (q.tp : Nat)] w fun e w' => e = .returned (.int .i64 ((F : Int) - 1)) ∧ Below w.heap.size w w') :
    Calls Tryd.prog 77 #[.pointer (some ⟨P, o, none⟩), .pointer (some ⟨M, 0, none⟩)] w fun r w' => r = .returned (.bool false) ∧ ∃ c', InA w w' M G N (X.set L F) (T + 1) P c' t ∧ PuAt c' o K ⟨q.sl, 2, q.tp⟩ ∧ Same c c' o (o + 8) := by
  have htb := is.tb
  have hlen := is.len
  have c0 : ∀ wr, InA w wr M G N X T P c t → Calls Tryd.prog 27 #[.pointer (some ⟨M, 0, none⟩), .int .i64 (L : Nat), .int .u64 (F : Nat)] wr fun e w' => e = .returned (.bool true) ∧ InA w w' M G N (X.set L F) (T + 1) P c t := fun wr x =>
    (storeX x.mem (by rw [hlen]; exact hL) (by omega) htb).mono fun e w' ⟨h1, h2, h3⟩ => ⟨h1, x.only h2 h3 (by rw [List.length_set]; exact hlen) (by omega)⟩
  have q1 : IntKind.i64.wrap (F : Int) = (F : Int) := by rw [IntKind.wrap_i64]; omega
  have q2 : IntKind.u64.wrap (F : Int) = (F : Int) := by rw [IntKind.wrap_u64]; omega
  clear hL hF
  have p2 : PuAt (c.setIfInBounds (o + 7) (.int .i64 2)) o K ⟨q.sl, 2, q.tp⟩ := hp.put_pc 2
  have hrd := fun wr X T (x : InA w wr M G N X T P c t) => hp.rd x
  have l7 := is.cell hp.pc
  rw [h0] at l7
  obtain ⟨sl, pc, tp⟩ := q
  simp only at *
  go_enter Tryd.func77, Tryd.ntmps77
  go_upto_region 8 with fail
  replace is := is.drew
  go_region_held (fun wr => wr.cell? ⟨P, o, none⟩ = some (.int .i64 (K.S : Nat)) ∧ wr.cell? ⟨P, o + 1, none⟩ = some (.int .i64 K.a) ∧ wr.cell? ⟨P, o + 2, none⟩ = some (.int .i64 (K.C : Nat)) ∧ wr.cell? ⟨P, o + 3, none⟩ = some (.int .i64 (K.D : Nat)) ∧ wr.cell? ⟨P, o + 4, none⟩ = some (.int .i64 K.g) ∧ wr.cell? ⟨P, o + 5, none⟩ = some (.int .i64 K.k) ∧ wr.cell? ⟨P, o + 6, none⟩ = some (.int .i64 (sl : Nat)) ∧ wr.cell? ⟨P, o + 8, none⟩ = some (.int .u64 (tp : Nat))) (with_reducible exact hrd _ _ _ is) (first
    | (go_at_call 75; with_reducible refine (c1 _).mono ?_; rintro e w3 ⟨rfl, b⟩; replace is := is.below b)
    | (go_at_call 82; with_reducible refine (c2 _).mono ?_; rintro e w3 ⟨rfl, b⟩; replace is := is.below b)
    | (go_at_call 27; with_reducible refine (c0 _ is).mono ?_; rintro e w3 ⟨rfl, i1⟩; clear is; have is := i1; clear i1))
  all_goals
    clear hrd c0 c1 c2 l7
    have l7 := is.cell hp.pc
    have f7 := is.free (o + 7)
    have i2 := is.set (o + 7) (.int .i64 2)
    go_upto_region 12 with fail
    clear is l7 f7
    generalize w3.setCell ⟨P, o + 7, none⟩ (.int .i64 2) = w5 at *
    have l7 := i2.cell p2.pc
    go_wp2
    go_ret
    exact ⟨rfl, _, i2, p2, Same.set _ _ (by omega)⟩

set_option maxHeartbeats 2000000 in
theorem pswap_yes {w : World} {M G N P o : Nat} {X : List Nat} {T : Int} {c : Array Value} {t : TypeId} {K : Cf} {q : QS} (is : InA w w M G N X T P c t) (hp : PuAt c o K q) (hT : T + 1 < 4611686018427387904) (hN : 4 ≤ N) (htw : X.getD 3 0 = q.tp) {V : Nat} (hV : V < 18446744073709551616)
    (c1 : ∀ w, Calls Tryd.prog 86 #[.int .u64 (q.tp : Nat), .int .i64 (q.sl : Nat)] w fun e w' => e = .returned (.int .u64 (V : Nat)) ∧ Below w.heap.size w w') :
    Calls Tryd.prog 83 #[.pointer (some ⟨P, o, none⟩), .pointer (some ⟨M, 0, none⟩)] w fun r w' => r = .returned (.tuple #[]) ∧ ∃ c', InA w w' M G N (X.set 3 V) (T + 1) P c' t ∧ PuAt c' o K ⟨q.sl, 3, q.tp⟩ ∧ Same c c' o (o + 8) := by
  have htb := is.tb
  have hlen := is.len
  have c0 : ∀ wr c, InA w wr M G N X T P c t → Calls Tryd.prog 50 #[.pointer (some ⟨M, 0, none⟩), .int .i64 3, .int .u64 (q.tp : Nat), .int .u64 (V : Nat)] wr fun e w' => e = .returned (.bool true) ∧ InA w w' M G N (X.set 3 V) (T + 1) P c t := fun wr c x =>
    (swapX_yes (i := 3) x.mem (by rw [hlen]; omega) hV htw htb).mono fun e w' ⟨h1, h2, h3⟩ => ⟨h1, x.only h2 h3 (by rw [List.length_set]; exact hlen) (by omega)⟩
  clear htw hN hV
  have q1 : PuAt (c.setIfInBounds (o + 7) (.int .i64 0)) o K ⟨q.sl, 0, q.tp⟩ := hp.put_pc 0
  have s1 : Same c (c.setIfInBounds (o + 7) (.int .i64 0)) o (o + 8) := Same.set c _ (by omega)
  have l7 := is.cell hp.pc
  have f7 := is.free (o + 7)
  replace is := is.set (o + 7) (.int .i64 0)
  clear hp
  obtain ⟨sl, pc, tp⟩ := q
  simp only at *
  go_enter Tryd.func83, Tryd.ntmps83
  go_upto_region 1 with fail
  clear l7 f7
  generalize w.setCell ⟨P, o + 7, none⟩ (.int .i64 0) = w2 at *
  generalize c.setIfInBounds (o + 7) (.int .i64 0) = c9 at *
  replace is := is.drew
  have hrd2 := fun wr X T (x : InA w wr M G N X T P c9 t) => q1.rd2 x
  simp only at hrd2
  have q3 := q1.put_pc 3
  go_region_held (fun w' => w'.cell? ⟨P, o + 6, none⟩ = some (.int .i64 (sl : Nat)) ∧ w'.cell? ⟨P, o + 8, none⟩ = some (.int .u64 (tp : Nat))) (with_reducible exact hrd2 _ _ _ is) (first
    | (go_at_call 86; with_reducible refine (c1 _).mono ?_; rintro e w3 ⟨rfl, b⟩; replace is := is.below b)
    | (go_at_call 50; with_reducible refine (c0 _ _ is).mono ?_; rintro e w3 ⟨rfl, i1⟩; clear is; have is := i1; clear i1))
  have l7 := is.cell q1.pc
  have f7 := is.free (o + 7)
  have i2 := is.set (o + 7) (.int .i64 3)
  clear hrd2 is c0 c1
  go_wp2
  go_end0
  exact ⟨rfl, _, i2, q3, s1.trans (Same.set _ _ (by omega))⟩

set_option maxHeartbeats 2000000 in
theorem pswap_no {w : World} {M G N P o : Nat} {X : List Nat} {T : Int} {c : Array Value} {t : TypeId} {K : Cf} {q : QS} (is : InA w w M G N X T P c t) (hp : PuAt c o K q) (hT : T + 1 < 4611686018427387904) (hN : 4 ≤ N) (htw : X.getD 3 0 ≠ q.tp) {V : Nat}
    (c1 : ∀ w, Calls Tryd.prog 86 #[.int .u64 (q.tp : Nat), .int .i64 (q.sl : Nat)] w fun e w' => e = .returned (.int .u64 (V : Nat)) ∧ Below w.heap.size w w') :
    Calls Tryd.prog 83 #[.pointer (some ⟨P, o, none⟩), .pointer (some ⟨M, 0, none⟩)] w fun r w' => r = .returned (.tuple #[]) ∧ ∃ c', InA w w' M G N X (T + 1) P c' t ∧ PuAt c' o K ⟨q.sl, 0, q.tp⟩ ∧ Same c c' o (o + 8) := by
  have htb := is.tb
  have hlen := is.len
  have c0 : ∀ wr c, InA w wr M G N X T P c t → Calls Tryd.prog 50 #[.pointer (some ⟨M, 0, none⟩), .int .i64 3, .int .u64 (q.tp : Nat), .int .u64 (V : Nat)] wr fun e w' => e = .returned (.bool false) ∧ InA w w' M G N X (T + 1) P c t := fun wr c x =>
    (swapX_no (i := 3) x.mem (by rw [hlen]; omega) htw htb).mono fun e w' ⟨h1, h2, h3⟩ => ⟨h1, x.only h2 h3 hlen (by omega)⟩
  clear htw hN
  have q1 : PuAt (c.setIfInBounds (o + 7) (.int .i64 0)) o K ⟨q.sl, 0, q.tp⟩ := hp.put_pc 0
  have s1 : Same c (c.setIfInBounds (o + 7) (.int .i64 0)) o (o + 8) := Same.set c _ (by omega)
  have l7 := is.cell hp.pc
  have f7 := is.free (o + 7)
  replace is := is.set (o + 7) (.int .i64 0)
  clear hp
  obtain ⟨sl, pc, tp⟩ := q
  simp only at *
  go_enter Tryd.func83, Tryd.ntmps83
  go_upto_region 1 with fail
  clear l7 f7
  generalize w.setCell ⟨P, o + 7, none⟩ (.int .i64 0) = w2 at *
  generalize c.setIfInBounds (o + 7) (.int .i64 0) = c9 at *
  replace is := is.drew
  have hrd2 := fun wr X T (x : InA w wr M G N X T P c9 t) => q1.rd2 x
  simp only at hrd2
  go_region_held (fun w' => w'.cell? ⟨P, o + 6, none⟩ = some (.int .i64 (sl : Nat)) ∧ w'.cell? ⟨P, o + 8, none⟩ = some (.int .u64 (tp : Nat))) (with_reducible exact hrd2 _ _ _ is) (first
    | (go_at_call 86; with_reducible refine (c1 _).mono ?_; rintro e w3 ⟨rfl, b⟩; replace is := is.below b)
    | (go_at_call 50; with_reducible refine (c0 _ _ is).mono ?_; rintro e w3 ⟨rfl, i1⟩; clear is; have is := i1; clear i1))
  clear hrd2 c0 c1
  go_wp2
  go_end0
  exact ⟨rfl, _, is, q1, s1⟩

set_option maxHeartbeats 1000000 in
theorem push_call {w : World} {M G N P o : Nat} {X X' : List Nat} {T T' : Int} {c : Array Value} {t : TypeId} {K : Cf} {q q' : QS} (is : InA w w M G N X T P c t) (hp : PuAt c o K q) (h1 : q.pc = 2)
    (c0 : Calls Tryd.prog 83 #[.pointer (some ⟨P, o, none⟩), .pointer (some ⟨M, 0, none⟩)] w fun r w' => r = .returned (.tuple #[]) ∧ ∃ c', InA w w' M G N X' T' P c' t ∧ PuAt c' o K q' ∧ Same c c' o (o + 8)) :
    Calls Tryd.prog 77 #[.pointer (some ⟨P, o, none⟩), .pointer (some ⟨M, 0, none⟩)] w fun r w' => r = .returned (.bool (decide (q'.pc = 3))) ∧ ∃ c', InA w w' M G N X' T' P c' t ∧ PuAt c' o K q' ∧ Same c c' o (o + 8) := by
  have l7 := is.cell hp.pc
  have hd : ((q'.pc : Int) == 3) = decide (q'.pc = 3) := by by_cases e : q'.pc = 3 <;> simp [e]; omega
  rw [← hd]
  rw [h1] at l7
  clear hp hd h1 is
  go_enter Tryd.func77, Tryd.ntmps77
  go_wp2_with (go_at_call 83; refine c0.mono ?_; rintro e w1 ⟨rfl, c1, i1, p1, s1⟩; have m8 := i1.cell p1.pc)
  go_ret
  exact ⟨rfl, c1, i1, p1, s1⟩

/-- A Push's step. -/
theorem push_any {w : World} {M G P o : Nat} {X : List Nat} {T : Int} {c : Array Value} {t : TypeId} {K : Cf} {q : QS} (hK : K.Ok) (is : InA w w M G K.N X T P c t) (hp : PuAt c o K q) (hw : QWf K q) (h2 : q.pc ≤ 2) (hT : T + 1 < 4611686018427387904) :
    Calls Tryd.prog 77 #[.pointer (some ⟨P, o, none⟩), .pointer (some ⟨M, 0, none⟩)] w fun r w' => r = .returned (.bool (decide ((pushX K X q).2.pc = 3))) ∧ ∃ c', InA w w' M G K.N (pushX K X q).1 (T + 1) P c' t ∧ PuAt c' o K (pushX K X q).2 ∧ Same c c' o (o + 8) := by
  have hN := hK.N_b
  have hX := fun i => is.mem.fits i
  have h3 : q.pc = 0 ∨ q.pc = 1 ∨ q.pc = 2 := by omega
  rcases h3 with h | h | h
  · have e : pushX K X q = (X, ⟨q.sl, 1, X.getD 3 0⟩) := by unfold pushX; rw [if_pos h]
    rw [e]
    exact pstep_0 is hp h hT (by omega) rfl
  · have e : pushX K X q = (X.set (K.lk q.sl) (fst K.S q.tp + 1).toNat, ⟨q.sl, 2, q.tp⟩) := by unfold pushX; rw [if_neg (by omega), if_pos h]
    rw [e]
    have c2 := first_any K.S hK.s64 K.a K.C K.D K.g K.k q.tp hw.tp
    have hF : (fst K.S q.tp + 1).toNat ≤ 64 := by have := hK.s64; rcases fst_cases K.S q.tp with h0 | ⟨s, hs, h0, _⟩ <;> rw [h0] <;> omega
    have eF : fst K.S q.tp = (((fst K.S q.tp + 1).toNat : Nat) : Int) - 1 := by rcases fst_cases K.S q.tp with h0 | ⟨s, hs, h0, _⟩ <;> rw [h0] <;> omega
    rw [eF] at c2
    exact pstep_1 is hp h hT (hK.lk_lt hw.sl) hF (link_any hK q.sl hw.sl) c2
  · have c1 := Tg.moved_any q.tp (q.sl : Nat) hw.tp
    by_cases hv : X.getD 3 0 = q.tp
    · have e : pushX K X q = (X.set 3 (movedW q.tp q.sl), ⟨q.sl, 3, q.tp⟩) := by unfold pushX; rw [if_neg (by omega), if_neg (by omega), if_pos h, if_pos hv]
      rw [e]
      exact push_call is hp h (pswap_yes is hp hT (by omega) hv (movedW_lt _ _) c1)
    · have e : pushX K X q = (X, ⟨q.sl, 0, q.tp⟩) := by unfold pushX; rw [if_neg (by omega), if_neg (by omega), if_pos h, if_neg hv]
      rw [e]
      exact push_call is hp h (pswap_no is hp hT (by omega) hv c1)
end Go.Proofs.YteechgmjaagbmabDoor
