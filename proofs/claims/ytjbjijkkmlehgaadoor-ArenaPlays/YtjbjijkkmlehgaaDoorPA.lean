/- What the machines of stack and arena work on: words and touches; a block of cells beside them. -/
import Derived.Test.YtjbjijkkmlehgaaDoorSBase
import Derived.Test.YtjbjijkkmlehgaaDoorMMake
import Derived.Test.YtjbjijkkmlehgaaDoorHhHLaws
import Derived.Test.YtjbjijkkmlehgaaDoorHhHRet
namespace Go.Proofs.YtjbjijkkmlehgaaDoor
open Go.RowKit
open Mm (IsMem MS touched Only)
open Hh (WT)

/-! A memory's methods, told by its words. -/
theorem loadX {w : World} {M G : Nat} {X : List Nat} {T : Int} (h : MemX w M G X T) {i : Nat} (hi : i < X.length) (ht : 0 ≤ T ∧ T < 4611686018427387904) {v : Nat} (hv : X.getD i 0 = v) :
    Calls Tryd.prog 50 #[.pointer (some ⟨M, 0, none⟩), .int .i64 (i : Nat)] w fun e w' => e = .returned (.int .u64 (v : Nat)) ∧ MemX w' M G X (T + 1) ∧ Only M G w w' := by
  obtain ⟨m, hm, rfl, rfl⟩ := h
  have c := Mm.load_in hm i hi ht
  rw [hv] at c
  exact c.mono fun e w' ⟨h1, h2, h3⟩ => ⟨h1, ⟨_, h2, by rw [← hv]; exact touched_X m 1 i, rfl⟩, h3⟩
theorem storeX {w : World} {M G : Nat} {X : List Nat} {T : Int} (h : MemX w M G X T) {i v : Nat} (hi : i < X.length) (hv : v < 18446744073709551616) (ht : 0 ≤ T ∧ T < 4611686018427387904) :
    Calls Tryd.prog 24 #[.pointer (some ⟨M, 0, none⟩), .int .i64 (i : Nat), .int .u64 (v : Nat)] w fun e w' => e = .returned (.bool true) ∧ MemX w' M G (X.set i v) (T + 1) ∧ Only M G w w' := by
  obtain ⟨m, hm, rfl, rfl⟩ := h
  exact (Mm.store_in hm i v hi hv ht).mono fun e w' ⟨h1, h2, h3⟩ => ⟨h1, ⟨_, h2, rfl, rfl⟩, h3⟩
theorem swapX_yes {w : World} {M G : Nat} {X : List Nat} {T : Int} (h : MemX w M G X T) {i o v : Nat} (hi : i < X.length) (hv : v < 18446744073709551616) (ho : X.getD i 0 = o) (ht : 0 ≤ T ∧ T < 4611686018427387904) :
    Calls Tryd.prog 94 #[.pointer (some ⟨M, 0, none⟩), .int .i64 (i : Nat), .int .u64 (o : Nat), .int .u64 (v : Nat)] w fun e w' => e = .returned (.bool true) ∧ MemX w' M G (X.set i v) (T + 1) ∧ Only M G w w' := by
  obtain ⟨m, hm, rfl, rfl⟩ := h
  exact (Mm.swap_yes hm i o v hi hv ho ht).mono fun e w' ⟨h1, h2, h3⟩ => ⟨h1, ⟨_, h2, rfl, rfl⟩, h3⟩
theorem swapX_no {w : World} {M G : Nat} {X : List Nat} {T : Int} (h : MemX w M G X T) {i o v : Nat} (hi : i < X.length) (ho : X.getD i 0 ≠ o) (ht : 0 ≤ T ∧ T < 4611686018427387904) :
    Calls Tryd.prog 94 #[.pointer (some ⟨M, 0, none⟩), .int .i64 (i : Nat), .int .u64 (o : Nat), .int .u64 (v : Nat)] w fun e w' => e = .returned (.bool false) ∧ MemX w' M G X (T + 1) ∧ Only M G w w' := by
  obtain ⟨m, hm, rfl, rfl⟩ := h
  exact (Mm.swap_no hm i o v hi ho ht).mono fun e w' ⟨h1, h2, h3⟩ => ⟨h1, ⟨_, h2, touched_X m 3 i, rfl⟩, h3⟩

/-- What is known of the world within a step of a machine that lies in block P. -/
structure InA (w wr : World) (M G N : Nat) (X : List Nat) (T : Int) (P : Nat) (c : Array Value) (t : TypeId) : Prop where
  mem : MemX wr M G X T
  wt : WT wr
  len : X.length = N
  tb : 0 ≤ T ∧ T < 4611686018427387904
  blk : wr.heap[P]? = some (.cells c t (0, 0))
  ch : Chg [P, M, G] w wr
  hP : P ≠ M ∧ P ≠ G
  pos : 0 < P ∧ 0 < M ∧ 0 < G
theorem InA.below {w wr w' : World} {M G N P : Nat} {X : List Nat} {T : Int} {c : Array Value} {t : TypeId} (h : InA w wr M G N X T P c t) (b : Below wr.heap.size wr w') : InA w w' M G N X T P c t :=
  ⟨h.mem.below b, h.wt.below b, h.len, h.tb, (b.block P (lt_of_block h.blk)).trans h.blk, h.ch.then_below b, h.hP, h.pos⟩
theorem InA.drew {w wr : World} {M G N P : Nat} {X : List Nat} {T : Int} {c : Array Value} {t : TypeId} (h : InA w wr M G N X T P c t) : InA w wr.drew M G N X T P c t := h.below (Below.refl _ _).drew
theorem InA.only {w wr w' : World} {M G N P : Nat} {X X' : List Nat} {T T' : Int} {c : Array Value} {t : TypeId} (h : InA w wr M G N X T P c t) (hm : MemX w' M G X' T') (o : Only M G wr w') (hl : X'.length = N) (ht : 0 ≤ T' ∧ T' < 4611686018427387904) : InA w w' M G N X' T' P c t := by
  have c : Chg [M, G] wr w' := Chg.of_only o (by simp) (by simp)
  have hp := h.pos
  exact ⟨hm, WT.chg h.wt c (by simp; omega), hl, ht, (o.block P (lt_of_block h.blk) h.hP.1 h.hP.2).trans h.blk, h.ch.trans (Chg.of_only o (by simp) (by simp)), h.hP, h.pos⟩
theorem InA.set {w wr : World} {M G N P : Nat} {X : List Nat} {T : Int} {c : Array Value} {t : TypeId} (h : InA w wr M G N X T P c t) (i : Nat) (v : Value) : InA w (wr.setCell ⟨P, i, none⟩ v) M G N X T P (c.setIfInBounds i v) t := by
  have ch : Chg [P] wr (wr.setCell ⟨P, i, none⟩ v) := (Chg.refl [P] wr).setCell (by simp) v
  have hp := h.pos
  have hP := h.hP
  exact ⟨h.mem.chg ch (by simp; omega) (by simp; omega), WT.chg h.wt ch (by simp; omega), h.len, h.tb, Mm.heap_setCell_at h.blk v, h.ch.trans ((Chg.refl [P, M, G] wr).setCell (by simp) v), h.hP, h.pos⟩
theorem InA.cell {w wr : World} {M G N P : Nat} {X : List Nat} {T : Int} {c : Array Value} {t : TypeId} (h : InA w wr M G N X T P c t) {i : Nat} {v : Value} (hi : c[i]? = some v) : wr.cell? ⟨P, i, none⟩ = some v := by
  unfold World.cell?
  simp only [h.blk]
  exact hi
theorem InA.free {w wr : World} {M G N P : Nat} {X : List Nat} {T : Int} {c : Array Value} {t : TypeId} (h : InA w wr M G N X T P c t) (i : Nat) : wr.frozen? ⟨P, i, none⟩ = false := by
  have h' := h.blk
  simp [World.frozen?, h']
theorem InA.restart {w wr : World} {M G N P : Nat} {X : List Nat} {T : Int} {c : Array Value} {t : TypeId} (h : InA w wr M G N X T P c t) : InA wr wr M G N X T P c t :=
  ⟨h.mem, h.wt, h.len, h.tb, h.blk, Chg.refl _ _, h.hP, h.pos⟩
theorem InA.join {w wr w' : World} {M G N P : Nat} {X X' : List Nat} {T T' : Int} {c c' : Array Value} {t : TypeId} (h : InA w wr M G N X T P c t) (k : InA wr w' M G N X' T' P c' t) : InA w w' M G N X' T' P c' t :=
  ⟨k.mem, k.wt, k.len, k.tb, k.blk, h.ch.trans k.ch, k.hP, k.pos⟩

/-- A cell of an array that is set to what it has. -/
theorem set_get {c : Array Value} {i : Nat} {v : Value} (h : c[i]? = some v) : c.setIfInBounds i v = c := by
  apply Array.ext_getElem?
  intro j
  rw [Array.getElem?_setIfInBounds]
  split
  · rename_i e; subst e
    rw [if_pos (Array.getElem?_eq_some_iff.1 h).1, h]
  · rfl
theorem get_set_ne {c : Array Value} {i j : Nat} {v : Value} (h : i ≠ j) : (c.setIfInBounds i v)[j]? = c[j]? := by rw [Array.getElem?_setIfInBounds, if_neg h]
theorem get_set {c : Array Value} {i : Nat} {v : Value} (h : i < c.size) : (c.setIfInBounds i v)[i]? = some v := by rw [Array.getElem?_setIfInBounds, if_pos rfl, if_pos h]
theorem lt_get {c : Array Value} {i : Nat} {v : Value} (h : c[i]? = some v) : i < c.size := (Array.getElem?_eq_some_iff.1 h).1
/-- Cells outside a part stay. -/
structure Same (c c' : Array Value) (a b : Nat) : Prop where
  size : c'.size = c.size
  out : ∀ i, (i < a ∨ b < i) → c'[i]? = c[i]?
theorem Same.refl (c : Array Value) (a b : Nat) : Same c c a b := ⟨rfl, fun _ _ => rfl⟩
theorem Same.trans {c d e : Array Value} {a b : Nat} (h : Same c d a b) (k : Same d e a b) : Same c e a b := ⟨k.size.trans h.size, fun i hi => (k.out i hi).trans (h.out i hi)⟩
theorem Same.set (c : Array Value) {a b i : Nat} (v : Value) (h : a ≤ i ∧ i ≤ b) : Same c (c.setIfInBounds i v) a b := ⟨by simp, fun j hj => get_set_ne (by omega)⟩

/-- Where a word of a slot's body stands. -/
def Cf.bd (K : Cf) (s i : Nat) : Nat := K.hd s + 2 + i
theorem Cf.bd_lt (K : Cf) {s i : Nat} (hs : s < K.S) (hi : i < K.B) : K.bd s i < K.N := by
  have h1 : (s + 1) * (2 + K.B) ≤ K.S * (2 + K.B) := Nat.mul_le_mul_right _ hs
  rw [Nat.succ_mul] at h1
  unfold Cf.bd Cf.hd Cf.N nW; omega
theorem Cf.bd_4 (K : Cf) (s i : Nat) : 4 < K.bd s i := by unfold Cf.bd Cf.hd; omega
theorem body_at {K : Cf} (hK : K.Ok) {s i : Nat} (hs : s < K.S) (hi : i < K.B) {j : Int} (hj : (s : Int) = j) {u : Int} (hu : (i : Int) = u) (w : World) :
    Calls Tryd.prog 59 #[.agg K.cs, .int .i64 j, .int .i64 u] w fun e w' => e = .returned (.int .i64 (K.bd s i : Nat)) ∧ Below w.heap.size w w' := by
  subst hj hu
  have h := body_yes (s := K.S) (a := K.a) (c := K.C) (d := K.D) (g := K.g) (k := K.k) s i hK.r (be_iff.2 (by omega)) (be_iff.2 (by rw [hK.b]; omega)) w
  have e : fsI K.C K.D + (s : Int) * ssI K.a + 2 + (i : Int) = ((K.bd s i : Nat) : Int) := by
    unfold fsI ssI Cf.bd Cf.hd
    rw [hK.b]
    push_cast
    omega
  rw [e] at h
  exact h
theorem header_at {K : Cf} (hK : K.Ok) {s : Nat} (hs : s < K.S) {j : Int} (hj : (s : Int) = j) (w : World) :
    Calls Tryd.prog 39 #[.agg K.cs, .int .i64 j] w fun e w' => e = .returned (.int .i64 (K.hd s : Nat)) ∧ Below w.heap.size w w' := by
  subst hj
  have h := header_yes (s := K.S) (a := K.a) (c := K.C) (d := K.D) (g := K.g) (k := K.k) s hK.r (be_iff.2 (by omega)) w
  have e : fsI K.C K.D + (s : Int) * ssI K.a = ((K.hd s : Nat) : Int) := by
    unfold fsI ssI Cf.hd
    rw [hK.b]
    push_cast
    omega
  rw [e] at h
  exact h
end Go.Proofs.YtjbjijkkmlehgaaDoor
/- Contracts of package stack's Pop, wherever it lies in a block. -/
namespace Go.Proofs.YtjbjijkkmlehgaaDoor
open Go.RowKit
open Mm (IsMem MS touched Only)
open Hh (WT)
open Tg (movedW)

/-- What a Pop holds. -/
structure PS where
  sl : Int
  em : Bool
  pc : Nat
  tp : Nat
  nx : Int
structure PoAt (c : Array Value) (o : Nat) (K : Cf) (p : PS) : Prop where
  sl : c[o]? = some (.int .i64 p.sl)
  em : c[o + 1]? = some (.bool p.em)
  k0 : c[o + 2]? = some (.int .i64 (K.S : Nat))
  k1 : c[o + 3]? = some (.int .i64 K.a)
  k2 : c[o + 4]? = some (.int .i64 (K.C : Nat))
  k3 : c[o + 5]? = some (.int .i64 (K.D : Nat))
  k4 : c[o + 6]? = some (.int .i64 K.g)
  k5 : c[o + 7]? = some (.int .i64 K.k)
  pc : c[o + 8]? = some (.int .i64 (p.pc : Nat))
  tp : c[o + 9]? = some (.int .u64 (p.tp : Nat))
  nx : c[o + 10]? = some (.int .i64 p.nx)
theorem PoAt.size {c : Array Value} {o : Nat} {K : Cf} {p : PS} (h : PoAt c o K p) : o + 10 < c.size := lt_get h.nx
theorem PoAt.same {c c' : Array Value} {o a b : Nat} {K : Cf} {p : PS} (h : PoAt c o K p) (s : Same c c' a b) (hab : b < o ∨ o + 10 < a) : PoAt c' o K p := by
  have e : ∀ i, i ≤ 10 → c'[o + i]? = c[o + i]? := fun i hi => s.out _ (by omega)
  exact ⟨(s.out o (by omega)).trans h.sl, (e 1 (by omega)).trans h.em, (e 2 (by omega)).trans h.k0, (e 3 (by omega)).trans h.k1, (e 4 (by omega)).trans h.k2, (e 5 (by omega)).trans h.k3, (e 6 (by omega)).trans h.k4, (e 7 (by omega)).trans h.k5, (e 8 (by omega)).trans h.pc, (e 9 (by omega)).trans h.tp, (e 10 (by omega)).trans h.nx⟩
theorem PoAt.put_sl {c : Array Value} {o : Nat} {K : Cf} {p : PS} (h : PoAt c o K p) (v : Int) : PoAt (c.setIfInBounds o (.int .i64 v)) o K { p with sl := v } := by
  have := h.size
  exact ⟨get_set (by omega), (get_set_ne (by omega)).trans h.em, (get_set_ne (by omega)).trans h.k0, (get_set_ne (by omega)).trans h.k1, (get_set_ne (by omega)).trans h.k2, (get_set_ne (by omega)).trans h.k3, (get_set_ne (by omega)).trans h.k4, (get_set_ne (by omega)).trans h.k5, (get_set_ne (by omega)).trans h.pc, (get_set_ne (by omega)).trans h.tp, (get_set_ne (by omega)).trans h.nx⟩
theorem PoAt.put_em {c : Array Value} {o : Nat} {K : Cf} {p : PS} (h : PoAt c o K p) (v : Bool) : PoAt (c.setIfInBounds (o + 1) (.bool v)) o K { p with em := v } := by
  have := h.size
  exact ⟨(get_set_ne (by omega)).trans h.sl, get_set (by omega), (get_set_ne (by omega)).trans h.k0, (get_set_ne (by omega)).trans h.k1, (get_set_ne (by omega)).trans h.k2, (get_set_ne (by omega)).trans h.k3, (get_set_ne (by omega)).trans h.k4, (get_set_ne (by omega)).trans h.k5, (get_set_ne (by omega)).trans h.pc, (get_set_ne (by omega)).trans h.tp, (get_set_ne (by omega)).trans h.nx⟩
theorem PoAt.put_pc {c : Array Value} {o : Nat} {K : Cf} {p : PS} (h : PoAt c o K p) (v : Nat) : PoAt (c.setIfInBounds (o + 8) (.int .i64 (v : Nat))) o K { p with pc := v } := by
  have := h.size
  exact ⟨(get_set_ne (by omega)).trans h.sl, (get_set_ne (by omega)).trans h.em, (get_set_ne (by omega)).trans h.k0, (get_set_ne (by omega)).trans h.k1, (get_set_ne (by omega)).trans h.k2, (get_set_ne (by omega)).trans h.k3, (get_set_ne (by omega)).trans h.k4, (get_set_ne (by omega)).trans h.k5, get_set (by omega), (get_set_ne (by omega)).trans h.tp, (get_set_ne (by omega)).trans h.nx⟩
theorem PoAt.put_tp {c : Array Value} {o : Nat} {K : Cf} {p : PS} (h : PoAt c o K p) (v : Nat) : PoAt (c.setIfInBounds (o + 9) (.int .u64 (v : Nat))) o K { p with tp := v } := by
  have := h.size
  exact ⟨(get_set_ne (by omega)).trans h.sl, (get_set_ne (by omega)).trans h.em, (get_set_ne (by omega)).trans h.k0, (get_set_ne (by omega)).trans h.k1, (get_set_ne (by omega)).trans h.k2, (get_set_ne (by omega)).trans h.k3, (get_set_ne (by omega)).trans h.k4, (get_set_ne (by omega)).trans h.k5, (get_set_ne (by omega)).trans h.pc, get_set (by omega), (get_set_ne (by omega)).trans h.nx⟩
theorem PoAt.put_nx {c : Array Value} {o : Nat} {K : Cf} {p : PS} (h : PoAt c o K p) (v : Int) : PoAt (c.setIfInBounds (o + 10) (.int .i64 v)) o K { p with nx := v } := by
  have := h.size
  exact ⟨(get_set_ne (by omega)).trans h.sl, (get_set_ne (by omega)).trans h.em, (get_set_ne (by omega)).trans h.k0, (get_set_ne (by omega)).trans h.k1, (get_set_ne (by omega)).trans h.k2, (get_set_ne (by omega)).trans h.k3, (get_set_ne (by omega)).trans h.k4, (get_set_ne (by omega)).trans h.k5, (get_set_ne (by omega)).trans h.pc, (get_set_ne (by omega)).trans h.tp, get_set (by omega)⟩

/-- A Pop's step on the words. -/
def popX (K : Cf) (X : List Nat) (p : PS) : List Nat × PS :=
  if p.pc = 0 then
    (X, ⟨p.sl, if fst K.S (X.getD 3 0) = -1 then true else p.em, if fst K.S (X.getD 3 0) = -1 then 3 else 1, X.getD 3 0, p.nx⟩)
  else if p.pc = 1 then
    (X, ⟨p.sl, p.em, 2, p.tp, nmd K.S (X.getD (K.lk (fst K.S p.tp).toNat) 0)⟩)
  else if p.pc = 2 then
    if X.getD 3 0 = p.tp then (X.set 3 (movedW p.tp p.nx), ⟨fst K.S p.tp, p.em, 3, p.tp, p.nx⟩)
    else (X, ⟨p.sl, p.em, 0, p.tp, p.nx⟩)
  else (X, p)
/-- What keeps a Pop's next step from falling. -/
structure PWf (K : Cf) (p : PS) : Prop where
  pc : p.pc ≤ 3
  tp : p.tp < 18446744073709551616
  one : p.pc = 1 → fst K.S p.tp ≠ -1
theorem movedW_lt (W : Nat) (s : Int) : movedW W s < 18446744073709551616 := by
  have := Tg.sl_le s
  unfold movedW
  omega
theorem fst_cases (S t : Nat) : fst S t = -1 ∨ ∃ s : Nat, s < S ∧ fst S t = (s : Int) ∧ t % 65536 = s + 1 := nmd_cases S _

/-- The cells that a Pop's own steps read. -/
theorem PoAt.rd {w wr : World} {M G N P : Nat} {X : List Nat} {T : Int} {c : Array Value} {t : TypeId} {o : Nat} {K : Cf} {p : PS} (h : PoAt c o K p) (is : InA w wr M G N X T P c t) :
    wr.cell? ⟨P, o + 2, none⟩ = some (.int .i64 (K.S : Nat)) ∧ wr.cell? ⟨P, o + 3, none⟩ = some (.int .i64 K.a) ∧ wr.cell? ⟨P, o + 4, none⟩ = some (.int .i64 (K.C : Nat)) ∧ wr.cell? ⟨P, o + 5, none⟩ = some (.int .i64 (K.D : Nat)) ∧ wr.cell? ⟨P, o + 6, none⟩ = some (.int .i64 K.g) ∧ wr.cell? ⟨P, o + 7, none⟩ = some (.int .i64 K.k) ∧ wr.cell? ⟨P, o + 9, none⟩ = some (.int .u64 (p.tp : Nat)) :=
  ⟨is.cell h.k0, is.cell h.k1, is.cell h.k2, is.cell h.k3, is.cell h.k4, is.cell h.k5, is.cell h.tp⟩

set_option maxHeartbeats 2000000 in
theorem loadTop_as {w : World} {M G N P o : Nat} {X : List Nat} {T : Int} {c : Array Value} {t : TypeId} {K : Cf} {p : PS} (is : InA w w M G N X T P c t) (hp : PoAt c o K p) (hT : T + 1 < 4611686018427387904) (hN : 4 ≤ N) {tw : Nat} (htw : X.getD 3 0 = tw) {f : Int}
    (c1 : ∀ w, Calls Tryd.prog 88 #[.agg (cs K.S K.a K.C K.D K.g K.k), .int .u64 (tw : Nat)] w fun e w' => e = .returned (.int .i64 f) ∧ Below w.heap.size w w') :
    Calls Tryd.prog 80 #[.pointer (some ⟨P, o, none⟩), .pointer (some ⟨M, 0, none⟩)] w fun r w' => r = .returned (.tuple #[]) ∧ ∃ c', InA w w' M G N X (T + 1) P c' t ∧ PoAt c' o K ⟨p.sl, if f = -1 then true else p.em, if f = -1 then 3 else 1, tw, p.nx⟩ ∧ Same c c' o (o + 10) := by
  have c0 := loadX (i := 3) is.mem (by rw [is.len]; omega) is.tb htw
  have htb := is.tb
  have hlen := is.len
  clear htw hN
  have p1 := hp.put_tp tw
  have p2 : PoAt ((c.setIfInBounds (o + 9) (.int .u64 (tw : Nat))).setIfInBounds (o + 8) (.int .i64 1)) o K ⟨p.sl, p.em, 1, tw, p.nx⟩ := p1.put_pc 1
  have s2 : Same c ((c.setIfInBounds (o + 9) (.int .u64 (tw : Nat))).setIfInBounds (o + 8) (.int .i64 1)) o (o + 10) := (Same.set c _ (by omega)).trans (Same.set _ _ (by omega))
  go_enter Tryd.func80, Tryd.ntmps80
  go_upto_region 1 with (go_at_call 50; refine c0.mono ?_; rintro e w1 ⟨rfl, hm, ho⟩; replace is := is.only hm ho hlen (by omega); have l9 := is.cell hp.tp; have f9 := is.free (o + 9))
  replace is := is.set (o + 9) (.int .u64 (tw : Nat))
  clear l9 f9 hm ho c0
  generalize w1.setCell ⟨P, o + 9, none⟩ (.int .u64 (tw : Nat)) = w2 at *
  have l8 := is.cell p1.pc
  have f8 := is.free (o + 8)
  go_upto_region 2 with fail
  replace is := is.set (o + 8) (.int .i64 1)
  clear l8 f8 p1 hp
  generalize w2.setCell ⟨P, o + 8, none⟩ (.int .i64 1) = w3 at *
  generalize (c.setIfInBounds (o + 9) (.int .u64 (tw : Nat))).setIfInBounds (o + 8) (.int .i64 1) = c2 at *
  replace is := is.drew
  go_region_held (fun wr => wr.cell? ⟨P, o + 2, none⟩ = some (.int .i64 (K.S : Nat)) ∧ wr.cell? ⟨P, o + 3, none⟩ = some (.int .i64 K.a) ∧ wr.cell? ⟨P, o + 4, none⟩ = some (.int .i64 (K.C : Nat)) ∧ wr.cell? ⟨P, o + 5, none⟩ = some (.int .i64 (K.D : Nat)) ∧ wr.cell? ⟨P, o + 6, none⟩ = some (.int .i64 K.g) ∧ wr.cell? ⟨P, o + 7, none⟩ = some (.int .i64 K.k) ∧ wr.cell? ⟨P, o + 9, none⟩ = some (.int .u64 (tw : Nat))) (with_reducible exact p2.rd is) (first
    | (go_at_call 88; with_reducible refine (c1 _).mono ?_; rintro e w4 ⟨rfl, b⟩; replace is := is.below b))
  clear c1 b
  by_cases hf : f = -1
  · subst hf
    have q1 := p2.put_em true
    have q2 := q1.put_pc 3
    have l1 := is.cell p2.em
    have f1 := is.free (o + 1)
    go_upto_region 4 with fail
    replace is := is.set (o + 1) (.bool true)
    clear l1 f1
    generalize w4.setCell ⟨P, o + 1, none⟩ (.bool true) = w5 at *
    have l8 := is.cell q1.pc
    have f8 := is.free (o + 8)
    go_wp2
    go_end0
    exact ⟨rfl, _, is.set (o + 8) (.int .i64 3), q2, s2.trans ((Same.set _ _ (by omega)).trans (Same.set _ _ (by omega)))⟩
  · have hf2 : (f == -1) = false := by simpa using hf
    go_wp2
    go_end0
    exact ⟨rfl, _, is, p2, s2⟩

set_option maxHeartbeats 2000000 in
theorem loadLink_as {w : World} {M G N P o : Nat} {X : List Nat} {T : Int} {c : Array Value} {t : TypeId} {K : Cf} {p : PS} (is : InA w w M G N X T P c t) (hp : PoAt c o K p) (hT : T + 1 < 4611686018427387904) {L v j : Nat} (hL : L < N) (hv : X.getD L 0 = v) {f : Int}
    (c1 : ∀ w, Calls Tryd.prog 88 #[.agg (cs K.S K.a K.C K.D K.g K.k), .int .u64 (p.tp : Nat)] w fun e w' => e = .returned (.int .i64 (j : Nat)) ∧ Below w.heap.size w w')
    (c2 : ∀ w, Calls Tryd.prog 37 #[.agg (cs K.S K.a K.C K.D K.g K.k), .int .i64 (j : Nat)] w fun e w' => e = .returned (.int .i64 (L : Nat)) ∧ Below w.heap.size w w')
    (c3 : ∀ w, Calls Tryd.prog 93 #[.agg (cs K.S K.a K.C K.D K.g K.k), .int .u64 (v : Nat)] w fun e w' => e = .returned (.int .i64 f) ∧ Below w.heap.size w w') :
    Calls Tryd.prog 81 #[.pointer (some ⟨P, o, none⟩), .pointer (some ⟨M, 0, none⟩)] w fun r w' => r = .returned (.tuple #[]) ∧ ∃ c', InA w w' M G N X (T + 1) P c' t ∧ PoAt c' o K ⟨p.sl, p.em, 2, p.tp, f⟩ ∧ Same c c' o (o + 10) := by
  have htb := is.tb
  have hlen := is.len
  have c0 : ∀ wr, InA w wr M G N X T P c t → Calls Tryd.prog 50 #[.pointer (some ⟨M, 0, none⟩), .int .i64 (L : Nat)] wr fun e w' => e = .returned (.int .u64 (v : Nat)) ∧ InA w w' M G N X (T + 1) P c t := fun wr x =>
    (loadX x.mem (by rw [hlen]; exact hL) htb hv).mono fun e w' ⟨h1, h2, h3⟩ => ⟨h1, x.only h2 h3 hlen (by omega)⟩
  clear hL hv
  have q1 := hp.put_nx f
  have q2 := q1.put_pc 2
  have hrd := fun wr T (x : InA w wr M G N X T P c t) => hp.rd x
  have hset := fun wr T (x : InA w wr M G N X T P c t) => q1.rd (x.set (o + 10) (.int .i64 f))
  have hnx := fun wr T (x : InA w wr M G N X T P c t) => (⟨x.cell hp.nx, x.free (o + 10)⟩ : _ ∧ _)
  have s2 : Same c ((c.setIfInBounds (o + 10) (.int .i64 f)).setIfInBounds (o + 8) (.int .i64 2)) o (o + 10) := (Same.set c _ (by omega)).trans (Same.set _ _ (by omega))
  obtain ⟨sl, em, pc, tp, nx⟩ := p
  simp only at *
  go_enter Tryd.func81, Tryd.ntmps81
  go_upto_region 0 with fail
  replace is := is.drew
  obtain ⟨l10, f10⟩ := hnx _ _ is
  go_region_held (fun wr => wr.cell? ⟨P, o + 2, none⟩ = some (.int .i64 (K.S : Nat)) ∧ wr.cell? ⟨P, o + 3, none⟩ = some (.int .i64 K.a) ∧ wr.cell? ⟨P, o + 4, none⟩ = some (.int .i64 (K.C : Nat)) ∧ wr.cell? ⟨P, o + 5, none⟩ = some (.int .i64 (K.D : Nat)) ∧ wr.cell? ⟨P, o + 6, none⟩ = some (.int .i64 K.g) ∧ wr.cell? ⟨P, o + 7, none⟩ = some (.int .i64 K.k) ∧ wr.cell? ⟨P, o + 9, none⟩ = some (.int .u64 (tp : Nat))) (first | (with_reducible exact hrd _ _ is) | (with_reducible exact hset _ _ is)) (first
    | (go_at_call 88; with_reducible refine (c1 _).mono ?_; rintro e w3 ⟨rfl, b⟩; replace is := is.below b; clear l10 f10; obtain ⟨l10, f10⟩ := hnx _ _ is)
    | (go_at_call 37; with_reducible refine (c2 _).mono ?_; rintro e w3 ⟨rfl, b⟩; replace is := is.below b; clear l10 f10; obtain ⟨l10, f10⟩ := hnx _ _ is)
    | (go_at_call 50; with_reducible refine (c0 _ is).mono ?_; rintro e w3 ⟨rfl, i1⟩; clear is l10 f10; have is := i1; clear i1; obtain ⟨l10, f10⟩ := hnx _ _ is)
    | (go_at_call 93; with_reducible refine (c3 _).mono ?_; rintro e w3 ⟨rfl, b⟩; replace is := is.below b; clear l10 f10; obtain ⟨l10, f10⟩ := hnx _ _ is))
  have i2 := is.set (o + 10) (.int .i64 f)
  have l8 := i2.cell q1.pc
  have f8 := i2.free (o + 8)
  clear hset hrd hnx is c0 c1 c2 c3 b l10 f10
  go_upto_region 1 with fail
  generalize w3.setCell ⟨P, o + 10, none⟩ (.int .i64 f) = w5 at *
  go_wp2
  go_end0
  exact ⟨rfl, _, i2.set (o + 8) (.int .i64 2), q2, s2⟩

/-- The cells that a Pop's swap reads. -/
theorem PoAt.rd2 {w wr : World} {M G N P : Nat} {X : List Nat} {T : Int} {c : Array Value} {t : TypeId} {o : Nat} {K : Cf} {p : PS} (h : PoAt c o K p) (is : InA w wr M G N X T P c t) :
    wr.cell? ⟨P, o + 9, none⟩ = some (.int .u64 (p.tp : Nat)) ∧ wr.cell? ⟨P, o + 10, none⟩ = some (.int .i64 p.nx) := ⟨is.cell h.tp, is.cell h.nx⟩

set_option maxHeartbeats 2000000 in
theorem swapTop_yes {w : World} {M G N P o : Nat} {X : List Nat} {T : Int} {c : Array Value} {t : TypeId} {K : Cf} {p : PS} (is : InA w w M G N X T P c t) (hp : PoAt c o K p) (hT : T + 1 < 4611686018427387904) (hN : 4 ≤ N) (htw : X.getD 3 0 = p.tp) {V : Nat} (hV : V < 18446744073709551616) {f : Int}
    (c1 : ∀ w, Calls Tryd.prog 95 #[.int .u64 (p.tp : Nat), .int .i64 p.nx] w fun e w' => e = .returned (.int .u64 (V : Nat)) ∧ Below w.heap.size w w')
    (c2 : ∀ w, Calls Tryd.prog 88 #[.agg (cs K.S K.a K.C K.D K.g K.k), .int .u64 (p.tp : Nat)] w fun e w' => e = .returned (.int .i64 f) ∧ Below w.heap.size w w') :
    Calls Tryd.prog 82 #[.pointer (some ⟨P, o, none⟩), .pointer (some ⟨M, 0, none⟩)] w fun r w' => r = .returned (.tuple #[]) ∧ ∃ c', InA w w' M G N (X.set 3 V) (T + 1) P c' t ∧ PoAt c' o K ⟨f, p.em, 3, p.tp, p.nx⟩ ∧ Same c c' o (o + 10) := by
  have htb := is.tb
  have hlen := is.len
  have c0 : ∀ wr c, InA w wr M G N X T P c t → Calls Tryd.prog 94 #[.pointer (some ⟨M, 0, none⟩), .int .i64 3, .int .u64 (p.tp : Nat), .int .u64 (V : Nat)] wr fun e w' => e = .returned (.bool true) ∧ InA w w' M G N (X.set 3 V) (T + 1) P c t := fun wr c x =>
    (swapX_yes (i := 3) x.mem (by rw [hlen]; omega) hV htw htb).mono fun e w' ⟨h1, h2, h3⟩ => ⟨h1, x.only h2 h3 (by rw [List.length_set]; exact hlen) (by omega)⟩
  clear htw hN hV
  have q1 : PoAt (c.setIfInBounds (o + 8) (.int .i64 0)) o K ⟨p.sl, p.em, 0, p.tp, p.nx⟩ := hp.put_pc 0
  have s1 : Same c (c.setIfInBounds (o + 8) (.int .i64 0)) o (o + 10) := Same.set c _ (by omega)
  have l8 := is.cell hp.pc
  have f8 := is.free (o + 8)
  replace is := is.set (o + 8) (.int .i64 0)
  clear hp
  obtain ⟨sl, em, pc, tp, nx⟩ := p
  simp only at *
  go_enter Tryd.func82, Tryd.ntmps82
  go_upto_region 1 with fail
  clear l8 f8
  generalize w.setCell ⟨P, o + 8, none⟩ (.int .i64 0) = w2 at *
  generalize c.setIfInBounds (o + 8) (.int .i64 0) = c9 at *
  replace is := is.drew
  have hrd := fun wr X T (x : InA w wr M G N X T P c9 t) => q1.rd x
  have hrd2 := fun wr X T (x : InA w wr M G N X T P c9 t) => q1.rd2 x
  simp only at hrd hrd2
  have q2 := q1.put_sl f
  have hset := fun wr X T (x : InA w wr M G N X T P c9 t) => q2.rd (x.set o (.int .i64 f))
  simp only at hset
  have hsl := fun wr X T (x : InA w wr M G N X T P c9 t) => (⟨x.cell q1.sl, x.free o⟩ : _ ∧ _)
  have q3 := q2.put_pc 3
  go_region_held (fun w' => w'.cell? ⟨P, o + 9, none⟩ = some (.int .u64 (tp : Nat)) ∧ w'.cell? ⟨P, o + 10, none⟩ = some (.int .i64 nx)) (with_reducible exact hrd2 _ _ _ is) (first
    | (go_at_call 95; with_reducible refine (c1 _).mono ?_; rintro e w3 ⟨rfl, b⟩; replace is := is.below b)
    | (go_at_call 94; with_reducible refine (c0 _ _ is).mono ?_; rintro e w3 ⟨rfl, i1⟩; clear is; have is := i1; clear i1))
  go_upto_region 2 with fail
  replace is := is.drew
  obtain ⟨l0, f0⟩ := hsl _ _ _ is
  go_region_held (fun wr => wr.cell? ⟨P, o + 2, none⟩ = some (.int .i64 (K.S : Nat)) ∧ wr.cell? ⟨P, o + 3, none⟩ = some (.int .i64 K.a) ∧ wr.cell? ⟨P, o + 4, none⟩ = some (.int .i64 (K.C : Nat)) ∧ wr.cell? ⟨P, o + 5, none⟩ = some (.int .i64 (K.D : Nat)) ∧ wr.cell? ⟨P, o + 6, none⟩ = some (.int .i64 K.g) ∧ wr.cell? ⟨P, o + 7, none⟩ = some (.int .i64 K.k) ∧ wr.cell? ⟨P, o + 9, none⟩ = some (.int .u64 (tp : Nat))) (first | (with_reducible exact hrd _ _ _ is) | (with_reducible exact hset _ _ _ is)) (first
    | (go_at_call 88; with_reducible refine (c2 _).mono ?_; rintro e w4 ⟨rfl, b⟩; replace is := is.below b; clear l0 f0; obtain ⟨l0, f0⟩ := hsl _ _ _ is))
  have i2 := is.set o (.int .i64 f)
  have l8 := i2.cell q2.pc
  have f8 := i2.free (o + 8)
  clear hset hrd hrd2 hsl is c0 c1 c2 l0 f0
  go_upto_region 3 with fail
  generalize w4.setCell ⟨P, o, none⟩ (.int .i64 f) = w5 at *
  go_wp2
  go_end0
  exact ⟨rfl, _, i2.set (o + 8) (.int .i64 3), q3, s1.trans ((Same.set _ _ (by omega)).trans (Same.set _ _ (by omega)))⟩

set_option maxHeartbeats 2000000 in
theorem swapTop_no {w : World} {M G N P o : Nat} {X : List Nat} {T : Int} {c : Array Value} {t : TypeId} {K : Cf} {p : PS} (is : InA w w M G N X T P c t) (hp : PoAt c o K p) (hT : T + 1 < 4611686018427387904) (hN : 4 ≤ N) (htw : X.getD 3 0 ≠ p.tp) {V : Nat}
    (c1 : ∀ w, Calls Tryd.prog 95 #[.int .u64 (p.tp : Nat), .int .i64 p.nx] w fun e w' => e = .returned (.int .u64 (V : Nat)) ∧ Below w.heap.size w w') :
    Calls Tryd.prog 82 #[.pointer (some ⟨P, o, none⟩), .pointer (some ⟨M, 0, none⟩)] w fun r w' => r = .returned (.tuple #[]) ∧ ∃ c', InA w w' M G N X (T + 1) P c' t ∧ PoAt c' o K ⟨p.sl, p.em, 0, p.tp, p.nx⟩ ∧ Same c c' o (o + 10) := by
  have htb := is.tb
  have hlen := is.len
  have c0 : ∀ wr c, InA w wr M G N X T P c t → Calls Tryd.prog 94 #[.pointer (some ⟨M, 0, none⟩), .int .i64 3, .int .u64 (p.tp : Nat), .int .u64 (V : Nat)] wr fun e w' => e = .returned (.bool false) ∧ InA w w' M G N X (T + 1) P c t := fun wr c x =>
    (swapX_no (i := 3) x.mem (by rw [hlen]; omega) htw htb).mono fun e w' ⟨h1, h2, h3⟩ => ⟨h1, x.only h2 h3 hlen (by omega)⟩
  clear htw hN
  have q1 : PoAt (c.setIfInBounds (o + 8) (.int .i64 0)) o K ⟨p.sl, p.em, 0, p.tp, p.nx⟩ := hp.put_pc 0
  have s1 : Same c (c.setIfInBounds (o + 8) (.int .i64 0)) o (o + 10) := Same.set c _ (by omega)
  have l8 := is.cell hp.pc
  have f8 := is.free (o + 8)
  replace is := is.set (o + 8) (.int .i64 0)
  clear hp
  obtain ⟨sl, em, pc, tp, nx⟩ := p
  simp only at *
  go_enter Tryd.func82, Tryd.ntmps82
  go_upto_region 1 with fail
  clear l8 f8
  generalize w.setCell ⟨P, o + 8, none⟩ (.int .i64 0) = w2 at *
  generalize c.setIfInBounds (o + 8) (.int .i64 0) = c9 at *
  replace is := is.drew
  have hrd2 := fun wr X T (x : InA w wr M G N X T P c9 t) => q1.rd2 x
  simp only at hrd2
  go_region_held (fun w' => w'.cell? ⟨P, o + 9, none⟩ = some (.int .u64 (tp : Nat)) ∧ w'.cell? ⟨P, o + 10, none⟩ = some (.int .i64 nx)) (with_reducible exact hrd2 _ _ _ is) (first
    | (go_at_call 95; with_reducible refine (c1 _).mono ?_; rintro e w3 ⟨rfl, b⟩; replace is := is.below b)
    | (go_at_call 94; with_reducible refine (c0 _ _ is).mono ?_; rintro e w3 ⟨rfl, i1⟩; clear is; have is := i1; clear i1))
  clear hrd2 c0 c1
  go_wp2
  go_end0
  exact ⟨rfl, _, is, q1, s1⟩

set_option maxHeartbeats 1000000 in
theorem pop_call {w : World} {M G N P o : Nat} {X X' : List Nat} {T T' : Int} {c : Array Value} {t : TypeId} {K : Cf} {p p' : PS} {fn : Nat} (is : InA w w M G N X T P c t) (hp : PoAt c o K p) (h1 : p.pc = 0 ∧ fn = 80 ∨ p.pc = 1 ∧ fn = 81 ∨ p.pc = 2 ∧ fn = 82)
    (c0 : Calls Tryd.prog fn #[.pointer (some ⟨P, o, none⟩), .pointer (some ⟨M, 0, none⟩)] w fun r w' => r = .returned (.tuple #[]) ∧ ∃ c', InA w w' M G N X' T' P c' t ∧ PoAt c' o K p' ∧ Same c c' o (o + 10)) :
    Calls Tryd.prog 67 #[.pointer (some ⟨P, o, none⟩), .pointer (some ⟨M, 0, none⟩)] w fun r w' => r = .returned (.bool (decide (p'.pc = 3))) ∧ ∃ c', InA w w' M G N X' T' P c' t ∧ PoAt c' o K p' ∧ Same c c' o (o + 10) := by
  have l8 := is.cell hp.pc
  have hd : ((p'.pc : Int) == 3) = decide (p'.pc = 3) := by by_cases e : p'.pc = 3 <;> simp [e]; omega
  rw [← hd]
  rcases h1 with ⟨h1, rfl⟩ | ⟨h1, rfl⟩ | ⟨h1, rfl⟩
  · rw [h1] at l8
    clear hp hd h1 is
    go_enter Tryd.func67, Tryd.ntmps67
    go_wp2_with (go_at_call 80; refine c0.mono ?_; rintro e w1 ⟨rfl, c1, i1, p1, s1⟩; have m8 := i1.cell p1.pc)
    go_ret
    exact ⟨rfl, c1, i1, p1, s1⟩
  · rw [h1] at l8
    clear hp hd h1 is
    go_enter Tryd.func67, Tryd.ntmps67
    go_wp2_with (go_at_call 81; refine c0.mono ?_; rintro e w1 ⟨rfl, c1, i1, p1, s1⟩; have m8 := i1.cell p1.pc)
    go_ret
    exact ⟨rfl, c1, i1, p1, s1⟩
  · rw [h1] at l8
    clear hp hd h1 is
    go_enter Tryd.func67, Tryd.ntmps67
    go_wp2_with (go_at_call 82; refine c0.mono ?_; rintro e w1 ⟨rfl, c1, i1, p1, s1⟩; have m8 := i1.cell p1.pc)
    go_ret
    exact ⟨rfl, c1, i1, p1, s1⟩

/-- A Pop's step. -/
theorem pop_any {w : World} {M G P o : Nat} {X : List Nat} {T : Int} {c : Array Value} {t : TypeId} {K : Cf} {p : PS} (hK : K.Ok) (is : InA w w M G K.N X T P c t) (hp : PoAt c o K p) (hw : PWf K p) (h2 : p.pc ≤ 2) (hT : T + 1 < 4611686018427387904) :
    Calls Tryd.prog 67 #[.pointer (some ⟨P, o, none⟩), .pointer (some ⟨M, 0, none⟩)] w fun r w' => r = .returned (.bool (decide ((popX K X p).2.pc = 3))) ∧ ∃ c', InA w w' M G K.N (popX K X p).1 (T + 1) P c' t ∧ PoAt c' o K (popX K X p).2 ∧ Same c c' o (o + 10) := by
  have hN := hK.N_b
  have hX := fun i => is.mem.fits i
  have h3 : p.pc = 0 ∨ p.pc = 1 ∨ p.pc = 2 := by omega
  rcases h3 with h | h | h
  · have e : popX K X p = (X, ⟨p.sl, if fst K.S (X.getD 3 0) = -1 then true else p.em, if fst K.S (X.getD 3 0) = -1 then 3 else 1, X.getD 3 0, p.nx⟩) := by unfold popX; rw [if_pos h]
    rw [e]
    exact pop_call is hp (.inl ⟨h, rfl⟩) (loadTop_as is hp hT (by omega) rfl (first_any K.S hK.s64 K.a K.C K.D K.g K.k (X.getD 3 0) (hX 3)))
  · rcases fst_cases K.S p.tp with h0 | ⟨s, hs, h0, _⟩
    · exact absurd h0 (hw.one h)
    · have e : popX K X p = (X, ⟨p.sl, p.em, 2, p.tp, nmd K.S (X.getD (K.lk s) 0)⟩) := by unfold popX; rw [if_neg (by omega), if_pos h, h0]; rfl
      rw [e]
      have c1 := first_any K.S hK.s64 K.a K.C K.D K.g K.k p.tp hw.tp
      rw [h0] at c1
      exact pop_call is hp (.inr (.inl ⟨h, rfl⟩)) (loadLink_as is hp hT (hK.lk_lt hs) rfl c1 (link_any hK s hs) (named_any K.S hK.s64 K.a K.C K.D K.g K.k (X.getD (K.lk s) 0) (hX _)))
  · have c1 := Tg.moved_any p.tp p.nx hw.tp
    by_cases hv : X.getD 3 0 = p.tp
    · have e : popX K X p = (X.set 3 (movedW p.tp p.nx), ⟨fst K.S p.tp, p.em, 3, p.tp, p.nx⟩) := by unfold popX; rw [if_neg (by omega), if_neg (by omega), if_pos h, if_pos hv]
      rw [e]
      exact pop_call is hp (.inr (.inr ⟨h, rfl⟩)) (swapTop_yes is hp hT (by omega) hv (movedW_lt _ _) c1 (first_any K.S hK.s64 K.a K.C K.D K.g K.k p.tp hw.tp))
    · have e : popX K X p = (X, ⟨p.sl, p.em, 0, p.tp, p.nx⟩) := by unfold popX; rw [if_neg (by omega), if_neg (by omega), if_pos h, if_neg hv]
      rw [e]
      exact pop_call is hp (.inr (.inr ⟨h, rfl⟩)) (swapTop_no is hp hT (by omega) hv c1)
end Go.Proofs.YtjbjijkkmlehgaaDoor
/- Contracts of package stack's Push, wherever it lies in a block. -/
namespace Go.Proofs.YtjbjijkkmlehgaaDoor
open Go.RowKit
open Mm (IsMem MS touched Only)
open Hh (WT)
open Tg (movedW)

/-- What a Push holds. -/
structure QS where
  sl : Nat
  pc : Nat
  tp : Nat
structure PuAt (c : Array Value) (o : Nat) (K : Cf) (q : QS) : Prop where
  k0 : c[o]? = some (.int .i64 (K.S : Nat))
  k1 : c[o + 1]? = some (.int .i64 K.a)
  k2 : c[o + 2]? = some (.int .i64 (K.C : Nat))
  k3 : c[o + 3]? = some (.int .i64 (K.D : Nat))
  k4 : c[o + 4]? = some (.int .i64 K.g)
  k5 : c[o + 5]? = some (.int .i64 K.k)
  sl : c[o + 6]? = some (.int .i64 (q.sl : Nat))
  pc : c[o + 7]? = some (.int .i64 (q.pc : Nat))
  tp : c[o + 8]? = some (.int .u64 (q.tp : Nat))
theorem PuAt.size {c : Array Value} {o : Nat} {K : Cf} {q : QS} (h : PuAt c o K q) : o + 8 < c.size := lt_get h.tp
theorem PuAt.same {c c' : Array Value} {o a b : Nat} {K : Cf} {q : QS} (h : PuAt c o K q) (s : Same c c' a b) (hab : b < o ∨ o + 8 < a) : PuAt c' o K q := by
  have e : ∀ i, i ≤ 8 → c'[o + i]? = c[o + i]? := fun i hi => s.out _ (by omega)
  exact ⟨(s.out o (by omega)).trans h.k0, (e 1 (by omega)).trans h.k1, (e 2 (by omega)).trans h.k2, (e 3 (by omega)).trans h.k3, (e 4 (by omega)).trans h.k4, (e 5 (by omega)).trans h.k5, (e 6 (by omega)).trans h.sl, (e 7 (by omega)).trans h.pc, (e 8 (by omega)).trans h.tp⟩
theorem PuAt.put_pc {c : Array Value} {o : Nat} {K : Cf} {q : QS} (h : PuAt c o K q) (v : Nat) : PuAt (c.setIfInBounds (o + 7) (.int .i64 (v : Nat))) o K { q with pc := v } := by
  have := h.size
  exact ⟨(get_set_ne (by omega)).trans h.k0, (get_set_ne (by omega)).trans h.k1, (get_set_ne (by omega)).trans h.k2, (get_set_ne (by omega)).trans h.k3, (get_set_ne (by omega)).trans h.k4, (get_set_ne (by omega)).trans h.k5, (get_set_ne (by omega)).trans h.sl, get_set (by omega), (get_set_ne (by omega)).trans h.tp⟩
theorem PuAt.put_tp {c : Array Value} {o : Nat} {K : Cf} {q : QS} (h : PuAt c o K q) (v : Nat) : PuAt (c.setIfInBounds (o + 8) (.int .u64 (v : Nat))) o K { q with tp := v } := by
  have := h.size
  exact ⟨(get_set_ne (by omega)).trans h.k0, (get_set_ne (by omega)).trans h.k1, (get_set_ne (by omega)).trans h.k2, (get_set_ne (by omega)).trans h.k3, (get_set_ne (by omega)).trans h.k4, (get_set_ne (by omega)).trans h.k5, (get_set_ne (by omega)).trans h.sl, (get_set_ne (by omega)).trans h.pc, get_set (by omega)⟩
/-- A Push's step on the words. -/
def pushX (K : Cf) (X : List Nat) (q : QS) : List Nat × QS :=
  if q.pc = 0 then (X, ⟨q.sl, 1, X.getD 3 0⟩)
  else if q.pc = 1 then (X.set (K.lk q.sl) (fst K.S q.tp + 1).toNat, ⟨q.sl, 2, q.tp⟩)
  else if q.pc = 2 then
    if X.getD 3 0 = q.tp then (X.set 3 (movedW q.tp q.sl), ⟨q.sl, 3, q.tp⟩)
    else (X, ⟨q.sl, 0, q.tp⟩)
  else (X, q)
structure QWf (K : Cf) (q : QS) : Prop where
  pc : q.pc ≤ 3
  tp : q.tp < 18446744073709551616
  sl : q.sl < K.S
theorem PuAt.rd {w wr : World} {M G N P : Nat} {X : List Nat} {T : Int} {c : Array Value} {t : TypeId} {o : Nat} {K : Cf} {q : QS} (h : PuAt c o K q) (is : InA w wr M G N X T P c t) :
    wr.cell? ⟨P, o, none⟩ = some (.int .i64 (K.S : Nat)) ∧ wr.cell? ⟨P, o + 1, none⟩ = some (.int .i64 K.a) ∧ wr.cell? ⟨P, o + 2, none⟩ = some (.int .i64 (K.C : Nat)) ∧ wr.cell? ⟨P, o + 3, none⟩ = some (.int .i64 (K.D : Nat)) ∧ wr.cell? ⟨P, o + 4, none⟩ = some (.int .i64 K.g) ∧ wr.cell? ⟨P, o + 5, none⟩ = some (.int .i64 K.k) ∧ wr.cell? ⟨P, o + 6, none⟩ = some (.int .i64 (q.sl : Nat)) ∧ wr.cell? ⟨P, o + 8, none⟩ = some (.int .u64 (q.tp : Nat)) :=
  ⟨is.cell h.k0, is.cell h.k1, is.cell h.k2, is.cell h.k3, is.cell h.k4, is.cell h.k5, is.cell h.sl, is.cell h.tp⟩
theorem PuAt.rd2 {w wr : World} {M G N P : Nat} {X : List Nat} {T : Int} {c : Array Value} {t : TypeId} {o : Nat} {K : Cf} {q : QS} (h : PuAt c o K q) (is : InA w wr M G N X T P c t) :
    wr.cell? ⟨P, o + 6, none⟩ = some (.int .i64 (q.sl : Nat)) ∧ wr.cell? ⟨P, o + 8, none⟩ = some (.int .u64 (q.tp : Nat)) := ⟨is.cell h.sl, is.cell h.tp⟩

set_option maxHeartbeats 2000000 in
theorem pstep_0 {w : World} {M G N P o : Nat} {X : List Nat} {T : Int} {c : Array Value} {t : TypeId} {K : Cf} {q : QS} (is : InA w w M G N X T P c t) (hp : PuAt c o K q) (h0 : q.pc = 0) (hT : T + 1 < 4611686018427387904) (hN : 4 ≤ N) {tw : Nat} (htw : X.getD 3 0 = tw) :
    Calls Tryd.prog 72 #[.pointer (some ⟨P, o, none⟩), .pointer (some ⟨M, 0, none⟩)] w fun r w' => r = .returned (.bool false) ∧ ∃ c', InA w w' M G N X (T + 1) P c' t ∧ PuAt c' o K ⟨q.sl, 1, tw⟩ ∧ Same c c' o (o + 8) := by
  have c0 := loadX (i := 3) is.mem (by rw [is.len]; omega) is.tb htw
  have htb := is.tb
  have hlen := is.len
  clear htw hN
  have p1 := hp.put_tp tw
  have p2 : PuAt ((c.setIfInBounds (o + 8) (.int .u64 (tw : Nat))).setIfInBounds (o + 7) (.int .i64 1)) o K ⟨q.sl, 1, tw⟩ := p1.put_pc 1
  have s2 : Same c ((c.setIfInBounds (o + 8) (.int .u64 (tw : Nat))).setIfInBounds (o + 7) (.int .i64 1)) o (o + 8) := (Same.set c _ (by omega)).trans (Same.set _ _ (by omega))
  have l7 := is.cell hp.pc
  rw [h0] at l7
  go_enter Tryd.func72, Tryd.ntmps72
  go_upto_region 6 with (go_at_call 50; refine c0.mono ?_; rintro e w1 ⟨rfl, hm, ho⟩; replace is := is.only hm ho hlen (by omega); have l8 := is.cell hp.tp; have f8 := is.free (o + 8))
  replace is := is.set (o + 8) (.int .u64 (tw : Nat))
  clear l7 l8 f8 hm ho c0
  generalize w1.setCell ⟨P, o + 8, none⟩ (.int .u64 (tw : Nat)) = w2 at *
  have l7 := is.cell p1.pc
  have f7 := is.free (o + 7)
  go_upto_region 12 with fail
  replace is := is.set (o + 7) (.int .i64 1)
  clear l7 f7 p1 hp
  generalize w2.setCell ⟨P, o + 7, none⟩ (.int .i64 1) = w3 at *
  have l7 := is.cell p2.pc
  go_wp2
  go_ret
  exact ⟨rfl, _, is, p2, s2⟩

set_option maxHeartbeats 2000000 in
theorem pstep_1 {w : World} {M G N P o : Nat} {X : List Nat} {T : Int} {c : Array Value} {t : TypeId} {K : Cf} {q : QS} (is : InA w w M G N X T P c t) (hp : PuAt c o K q) (h0 : q.pc = 1) (hT : T + 1 < 4611686018427387904) {L F : Nat} (hL : L < N) (hF : F ≤ 64)
    (c1 : ∀ w, Calls Tryd.prog 37 #[.agg (cs K.S K.a K.C K.D K.g K.k), .int .i64 (q.sl : Nat)] w fun e w' => e = .returned (.int .i64 (L : Nat)) ∧ Below w.heap.size w w')
    (c2 : ∀ w, Calls Tryd.prog 88 #[.agg (cs K.S K.a K.C K.D K.g K.k), .int .u64 (q.tp : Nat)] w fun e w' => e = .returned (.int .i64 ((F : Int) - 1)) ∧ Below w.heap.size w w') :
    Calls Tryd.prog 72 #[.pointer (some ⟨P, o, none⟩), .pointer (some ⟨M, 0, none⟩)] w fun r w' => r = .returned (.bool false) ∧ ∃ c', InA w w' M G N (X.set L F) (T + 1) P c' t ∧ PuAt c' o K ⟨q.sl, 2, q.tp⟩ ∧ Same c c' o (o + 8) := by
  have htb := is.tb
  have hlen := is.len
  have c0 : ∀ wr, InA w wr M G N X T P c t → Calls Tryd.prog 24 #[.pointer (some ⟨M, 0, none⟩), .int .i64 (L : Nat), .int .u64 (F : Nat)] wr fun e w' => e = .returned (.bool true) ∧ InA w w' M G N (X.set L F) (T + 1) P c t := fun wr x =>
    (storeX x.mem (by rw [hlen]; exact hL) (by omega) htb).mono fun e w' ⟨h1, h2, h3⟩ => ⟨h1, x.only h2 h3 (by rw [List.length_set]; exact hlen) (by omega)⟩
  have q1 : IntKind.i64.wrap (F : Int) = (F : Int) := by rw [IntKind.wrap_i64]; omega
  have q2 : IntKind.u64.wrap (F : Int) = (F : Int) := by rw [IntKind.wrap_u64]; omega
  clear hL hF
  have p2 : PuAt (c.setIfInBounds (o + 7) (.int .i64 2)) o K ⟨q.sl, 2, q.tp⟩ := hp.put_pc 2
  have hrd := fun wr X T (x : InA w wr M G N X T P c t) => hp.rd x
  have l7 := is.cell hp.pc
  rw [h0] at l7
  obtain ⟨sl, pc, tp⟩ := q
  simp only at *
  go_enter Tryd.func72, Tryd.ntmps72
  go_upto_region 8 with fail
  replace is := is.drew
  go_region_held (fun wr => wr.cell? ⟨P, o, none⟩ = some (.int .i64 (K.S : Nat)) ∧ wr.cell? ⟨P, o + 1, none⟩ = some (.int .i64 K.a) ∧ wr.cell? ⟨P, o + 2, none⟩ = some (.int .i64 (K.C : Nat)) ∧ wr.cell? ⟨P, o + 3, none⟩ = some (.int .i64 (K.D : Nat)) ∧ wr.cell? ⟨P, o + 4, none⟩ = some (.int .i64 K.g) ∧ wr.cell? ⟨P, o + 5, none⟩ = some (.int .i64 K.k) ∧ wr.cell? ⟨P, o + 6, none⟩ = some (.int .i64 (sl : Nat)) ∧ wr.cell? ⟨P, o + 8, none⟩ = some (.int .u64 (tp : Nat))) (with_reducible exact hrd _ _ _ is) (first
    | (go_at_call 37; with_reducible refine (c1 _).mono ?_; rintro e w3 ⟨rfl, b⟩; replace is := is.below b)
    | (go_at_call 88; with_reducible refine (c2 _).mono ?_; rintro e w3 ⟨rfl, b⟩; replace is := is.below b)
    | (go_at_call 24; with_reducible refine (c0 _ is).mono ?_; rintro e w3 ⟨rfl, i1⟩; clear is; have is := i1; clear i1))
  all_goals
    clear hrd c0 c1 c2 l7
    have l7 := is.cell hp.pc
    have f7 := is.free (o + 7)
    have i2 := is.set (o + 7) (.int .i64 2)
    go_upto_region 12 with fail
    clear is l7 f7
    generalize w3.setCell ⟨P, o + 7, none⟩ (.int .i64 2) = w5 at *
    have l7 := i2.cell p2.pc
    go_wp2
    go_ret
    exact ⟨rfl, _, i2, p2, Same.set _ _ (by omega)⟩

set_option maxHeartbeats 2000000 in
theorem pswap_yes {w : World} {M G N P o : Nat} {X : List Nat} {T : Int} {c : Array Value} {t : TypeId} {K : Cf} {q : QS} (is : InA w w M G N X T P c t) (hp : PuAt c o K q) (hT : T + 1 < 4611686018427387904) (hN : 4 ≤ N) (htw : X.getD 3 0 = q.tp) {V : Nat} (hV : V < 18446744073709551616)
    (c1 : ∀ w, Calls Tryd.prog 95 #[.int .u64 (q.tp : Nat), .int .i64 (q.sl : Nat)] w fun e w' => e = .returned (.int .u64 (V : Nat)) ∧ Below w.heap.size w w') :
    Calls Tryd.prog 89 #[.pointer (some ⟨P, o, none⟩), .pointer (some ⟨M, 0, none⟩)] w fun r w' => r = .returned (.tuple #[]) ∧ ∃ c', InA w w' M G N (X.set 3 V) (T + 1) P c' t ∧ PuAt c' o K ⟨q.sl, 3, q.tp⟩ ∧ Same c c' o (o + 8) := by
  have htb := is.tb
  have hlen := is.len
  have c0 : ∀ wr c, InA w wr M G N X T P c t → Calls Tryd.prog 94 #[.pointer (some ⟨M, 0, none⟩), .int .i64 3, .int .u64 (q.tp : Nat), .int .u64 (V : Nat)] wr fun e w' => e = .returned (.bool true) ∧ InA w w' M G N (X.set 3 V) (T + 1) P c t := fun wr c x =>
    (swapX_yes (i := 3) x.mem (by rw [hlen]; omega) hV htw htb).mono fun e w' ⟨h1, h2, h3⟩ => ⟨h1, x.only h2 h3 (by rw [List.length_set]; exact hlen) (by omega)⟩
  clear htw hN hV
  have q1 : PuAt (c.setIfInBounds (o + 7) (.int .i64 0)) o K ⟨q.sl, 0, q.tp⟩ := hp.put_pc 0
  have s1 : Same c (c.setIfInBounds (o + 7) (.int .i64 0)) o (o + 8) := Same.set c _ (by omega)
  have l7 := is.cell hp.pc
  have f7 := is.free (o + 7)
  replace is := is.set (o + 7) (.int .i64 0)
  clear hp
  obtain ⟨sl, pc, tp⟩ := q
  simp only at *
  go_enter Tryd.func89, Tryd.ntmps89
  go_upto_region 1 with fail
  clear l7 f7
  generalize w.setCell ⟨P, o + 7, none⟩ (.int .i64 0) = w2 at *
  generalize c.setIfInBounds (o + 7) (.int .i64 0) = c9 at *
  replace is := is.drew
  have hrd2 := fun wr X T (x : InA w wr M G N X T P c9 t) => q1.rd2 x
  simp only at hrd2
  have q3 := q1.put_pc 3
  go_region_held (fun w' => w'.cell? ⟨P, o + 6, none⟩ = some (.int .i64 (sl : Nat)) ∧ w'.cell? ⟨P, o + 8, none⟩ = some (.int .u64 (tp : Nat))) (with_reducible exact hrd2 _ _ _ is) (first
    | (go_at_call 95; with_reducible refine (c1 _).mono ?_; rintro e w3 ⟨rfl, b⟩; replace is := is.below b)
    | (go_at_call 94; with_reducible refine (c0 _ _ is).mono ?_; rintro e w3 ⟨rfl, i1⟩; clear is; have is := i1; clear i1))
  have l7 := is.cell q1.pc
  have f7 := is.free (o + 7)
  have i2 := is.set (o + 7) (.int .i64 3)
  clear hrd2 is c0 c1
  go_wp2
  go_end0
  exact ⟨rfl, _, i2, q3, s1.trans (Same.set _ _ (by omega))⟩

set_option maxHeartbeats 2000000 in
theorem pswap_no {w : World} {M G N P o : Nat} {X : List Nat} {T : Int} {c : Array Value} {t : TypeId} {K : Cf} {q : QS} (is : InA w w M G N X T P c t) (hp : PuAt c o K q) (hT : T + 1 < 4611686018427387904) (hN : 4 ≤ N) (htw : X.getD 3 0 ≠ q.tp) {V : Nat}
    (c1 : ∀ w, Calls Tryd.prog 95 #[.int .u64 (q.tp : Nat), .int .i64 (q.sl : Nat)] w fun e w' => e = .returned (.int .u64 (V : Nat)) ∧ Below w.heap.size w w') :
    Calls Tryd.prog 89 #[.pointer (some ⟨P, o, none⟩), .pointer (some ⟨M, 0, none⟩)] w fun r w' => r = .returned (.tuple #[]) ∧ ∃ c', InA w w' M G N X (T + 1) P c' t ∧ PuAt c' o K ⟨q.sl, 0, q.tp⟩ ∧ Same c c' o (o + 8) := by
  have htb := is.tb
  have hlen := is.len
  have c0 : ∀ wr c, InA w wr M G N X T P c t → Calls Tryd.prog 94 #[.pointer (some ⟨M, 0, none⟩), .int .i64 3, .int .u64 (q.tp : Nat), .int .u64 (V : Nat)] wr fun e w' => e = .returned (.bool false) ∧ InA w w' M G N X (T + 1) P c t := fun wr c x =>
    (swapX_no (i := 3) x.mem (by rw [hlen]; omega) htw htb).mono fun e w' ⟨h1, h2, h3⟩ => ⟨h1, x.only h2 h3 hlen (by omega)⟩
  clear htw hN
  have q1 : PuAt (c.setIfInBounds (o + 7) (.int .i64 0)) o K ⟨q.sl, 0, q.tp⟩ := hp.put_pc 0
  have s1 : Same c (c.setIfInBounds (o + 7) (.int .i64 0)) o (o + 8) := Same.set c _ (by omega)
  have l7 := is.cell hp.pc
  have f7 := is.free (o + 7)
  replace is := is.set (o + 7) (.int .i64 0)
  clear hp
  obtain ⟨sl, pc, tp⟩ := q
  simp only at *
  go_enter Tryd.func89, Tryd.ntmps89
  go_upto_region 1 with fail
  clear l7 f7
  generalize w.setCell ⟨P, o + 7, none⟩ (.int .i64 0) = w2 at *
  generalize c.setIfInBounds (o + 7) (.int .i64 0) = c9 at *
  replace is := is.drew
  have hrd2 := fun wr X T (x : InA w wr M G N X T P c9 t) => q1.rd2 x
  simp only at hrd2
  go_region_held (fun w' => w'.cell? ⟨P, o + 6, none⟩ = some (.int .i64 (sl : Nat)) ∧ w'.cell? ⟨P, o + 8, none⟩ = some (.int .u64 (tp : Nat))) (with_reducible exact hrd2 _ _ _ is) (first
    | (go_at_call 95; with_reducible refine (c1 _).mono ?_; rintro e w3 ⟨rfl, b⟩; replace is := is.below b)
    | (go_at_call 94; with_reducible refine (c0 _ _ is).mono ?_; rintro e w3 ⟨rfl, i1⟩; clear is; have is := i1; clear i1))
  clear hrd2 c0 c1
  go_wp2
  go_end0
  exact ⟨rfl, _, is, q1, s1⟩

set_option maxHeartbeats 1000000 in
theorem push_call {w : World} {M G N P o : Nat} {X X' : List Nat} {T T' : Int} {c : Array Value} {t : TypeId} {K : Cf} {q q' : QS} (is : InA w w M G N X T P c t) (hp : PuAt c o K q) (h1 : q.pc = 2)
    (c0 : Calls Tryd.prog 89 #[.pointer (some ⟨P, o, none⟩), .pointer (some ⟨M, 0, none⟩)] w fun r w' => r = .returned (.tuple #[]) ∧ ∃ c', InA w w' M G N X' T' P c' t ∧ PuAt c' o K q' ∧ Same c c' o (o + 8)) :
    Calls Tryd.prog 72 #[.pointer (some ⟨P, o, none⟩), .pointer (some ⟨M, 0, none⟩)] w fun r w' => r = .returned (.bool (decide (q'.pc = 3))) ∧ ∃ c', InA w w' M G N X' T' P c' t ∧ PuAt c' o K q' ∧ Same c c' o (o + 8) := by
  have l7 := is.cell hp.pc
  have hd : ((q'.pc : Int) == 3) = decide (q'.pc = 3) := by by_cases e : q'.pc = 3 <;> simp [e]; omega
  rw [← hd]
  rw [h1] at l7
  clear hp hd h1 is
  go_enter Tryd.func72, Tryd.ntmps72
  go_wp2_with (go_at_call 89; refine c0.mono ?_; rintro e w1 ⟨rfl, c1, i1, p1, s1⟩; have m8 := i1.cell p1.pc)
  go_ret
  exact ⟨rfl, c1, i1, p1, s1⟩

/-- A Push's step. -/
theorem push_any {w : World} {M G P o : Nat} {X : List Nat} {T : Int} {c : Array Value} {t : TypeId} {K : Cf} {q : QS} (hK : K.Ok) (is : InA w w M G K.N X T P c t) (hp : PuAt c o K q) (hw : QWf K q) (h2 : q.pc ≤ 2) (hT : T + 1 < 4611686018427387904) :
    Calls Tryd.prog 72 #[.pointer (some ⟨P, o, none⟩), .pointer (some ⟨M, 0, none⟩)] w fun r w' => r = .returned (.bool (decide ((pushX K X q).2.pc = 3))) ∧ ∃ c', InA w w' M G K.N (pushX K X q).1 (T + 1) P c' t ∧ PuAt c' o K (pushX K X q).2 ∧ Same c c' o (o + 8) := by
  have hN := hK.N_b
  have hX := fun i => is.mem.fits i
  have h3 : q.pc = 0 ∨ q.pc = 1 ∨ q.pc = 2 := by omega
  rcases h3 with h | h | h
  · have e : pushX K X q = (X, ⟨q.sl, 1, X.getD 3 0⟩) := by unfold pushX; rw [if_pos h]
    rw [e]
    exact pstep_0 is hp h hT (by omega) rfl
  · have e : pushX K X q = (X.set (K.lk q.sl) (fst K.S q.tp + 1).toNat, ⟨q.sl, 2, q.tp⟩) := by unfold pushX; rw [if_neg (by omega), if_pos h]
    rw [e]
    have c2 := first_any K.S hK.s64 K.a K.C K.D K.g K.k q.tp hw.tp
    have hF : (fst K.S q.tp + 1).toNat ≤ 64 := by have := hK.s64; rcases fst_cases K.S q.tp with h0 | ⟨s, hs, h0, _⟩ <;> rw [h0] <;> omega
    have eF : fst K.S q.tp = (((fst K.S q.tp + 1).toNat : Nat) : Int) - 1 := by rcases fst_cases K.S q.tp with h0 | ⟨s, hs, h0, _⟩ <;> rw [h0] <;> omega
    rw [eF] at c2
    exact pstep_1 is hp h hT (hK.lk_lt hw.sl) hF (link_any hK q.sl hw.sl) c2
  · have c1 := Tg.moved_any q.tp (q.sl : Nat) hw.tp
    by_cases hv : X.getD 3 0 = q.tp
    · have e : pushX K X q = (X.set 3 (movedW q.tp q.sl), ⟨q.sl, 3, q.tp⟩) := by unfold pushX; rw [if_neg (by omega), if_neg (by omega), if_pos h, if_pos hv]
      rw [e]
      exact push_call is hp h (pswap_yes is hp hT (by omega) hv (movedW_lt _ _) c1)
    · have e : pushX K X q = (X, ⟨q.sl, 0, q.tp⟩) := by unfold pushX; rw [if_neg (by omega), if_neg (by omega), if_pos h, if_neg hv]
      rw [e]
      exact push_call is hp h (pswap_no is hp hT (by omega) hv c1)
end Go.Proofs.YtjbjijkkmlehgaaDoor
/- Contracts of package arena's Make: its own helpers. -/
namespace Go.Proofs.YtjbjijkkmlehgaaDoor
open Go.RowKit
open Mm (IsMem MS touched Only IsWords)
open Hh (WT wordOf bornN okW Hr)

/-- What a Make holds: the slot that it made, whether there was none, what it is to make, the body and the block in which that lies, what takes a slot, how far it is, the generation, the next word. -/
structure Mk where
  sl : Int
  full : Bool
  kind : Nat
  ar : Nat
  e : Nat
  bb : Nat
  body : List Nat
  p : PS
  pc : Nat
  gen : Nat
  nx : Nat
structure MkAt (c : Array Value) (K : Cf) (m : Mk) : Prop where
  sl : c[0]? = some (.int .i64 m.sl)
  full : c[1]? = some (.bool m.full)
  k0 : c[2]? = some (.int .i64 (K.S : Nat))
  k1 : c[3]? = some (.int .i64 K.a)
  k2 : c[4]? = some (.int .i64 (K.C : Nat))
  k3 : c[5]? = some (.int .i64 (K.D : Nat))
  k4 : c[6]? = some (.int .i64 K.g)
  k5 : c[7]? = some (.int .i64 K.k)
  kind : c[8]? = some (.int .i64 (m.kind : Nat))
  ar : c[9]? = some (.int .i64 (m.ar : Nat))
  e : c[10]? = some (.int .u64 (m.e : Nat))
  body : c[11]? = some (.slice (some ⟨m.bb, 0, none⟩) m.body.length m.body.length)
  p : PoAt c 12 K m.p
  pc : c[23]? = some (.int .i64 (m.pc : Nat))
  gen : c[24]? = some (.int .i64 (m.gen : Nat))
  nx : c[25]? = some (.int .i64 (m.nx : Nat))
theorem MkAt.size {c : Array Value} {K : Cf} {m : Mk} (h : MkAt c K m) : 25 < c.size := lt_get h.nx
theorem MkAt.pop {c c' : Array Value} {K : Cf} {m : Mk} {p : PS} (h : MkAt c K m) (s : Same c c' 12 22) (hp : PoAt c' 12 K p) : MkAt c' K { m with p := p } :=
  ⟨(s.out _ (by omega)).trans h.sl, (s.out _ (by omega)).trans h.full, (s.out _ (by omega)).trans h.k0, (s.out _ (by omega)).trans h.k1, (s.out _ (by omega)).trans h.k2, (s.out _ (by omega)).trans h.k3, (s.out _ (by omega)).trans h.k4, (s.out _ (by omega)).trans h.k5, (s.out _ (by omega)).trans h.kind, (s.out _ (by omega)).trans h.ar, (s.out _ (by omega)).trans h.e, (s.out _ (by omega)).trans h.body, hp, (s.out _ (by omega)).trans h.pc, (s.out _ (by omega)).trans h.gen, (s.out _ (by omega)).trans h.nx⟩
theorem MkAt.put_pc {c : Array Value} {K : Cf} {m : Mk} (h : MkAt c K m) (v : Nat) : MkAt (c.setIfInBounds 23 (.int .i64 (v : Nat))) K { m with pc := v } := by
  have := h.size
  exact ⟨(get_set_ne (by omega)).trans h.sl, (get_set_ne (by omega)).trans h.full, (get_set_ne (by omega)).trans h.k0, (get_set_ne (by omega)).trans h.k1, (get_set_ne (by omega)).trans h.k2, (get_set_ne (by omega)).trans h.k3, (get_set_ne (by omega)).trans h.k4, (get_set_ne (by omega)).trans h.k5, (get_set_ne (by omega)).trans h.kind, (get_set_ne (by omega)).trans h.ar, (get_set_ne (by omega)).trans h.e, (get_set_ne (by omega)).trans h.body, h.p.same (Same.set c (a := 23) (b := 23) _ (by omega)) (by omega), get_set (by omega), (get_set_ne (by omega)).trans h.gen, (get_set_ne (by omega)).trans h.nx⟩
theorem MkAt.put_gen {c : Array Value} {K : Cf} {m : Mk} (h : MkAt c K m) (v : Nat) : MkAt (c.setIfInBounds 24 (.int .i64 (v : Nat))) K { m with gen := v } := by
  have := h.size
  exact ⟨(get_set_ne (by omega)).trans h.sl, (get_set_ne (by omega)).trans h.full, (get_set_ne (by omega)).trans h.k0, (get_set_ne (by omega)).trans h.k1, (get_set_ne (by omega)).trans h.k2, (get_set_ne (by omega)).trans h.k3, (get_set_ne (by omega)).trans h.k4, (get_set_ne (by omega)).trans h.k5, (get_set_ne (by omega)).trans h.kind, (get_set_ne (by omega)).trans h.ar, (get_set_ne (by omega)).trans h.e, (get_set_ne (by omega)).trans h.body, h.p.same (Same.set c (a := 24) (b := 24) _ (by omega)) (by omega), (get_set_ne (by omega)).trans h.pc, get_set (by omega), (get_set_ne (by omega)).trans h.nx⟩
theorem MkAt.put_nx {c : Array Value} {K : Cf} {m : Mk} (h : MkAt c K m) (v : Nat) : MkAt (c.setIfInBounds 25 (.int .i64 (v : Nat))) K { m with nx := v } := by
  have := h.size
  exact ⟨(get_set_ne (by omega)).trans h.sl, (get_set_ne (by omega)).trans h.full, (get_set_ne (by omega)).trans h.k0, (get_set_ne (by omega)).trans h.k1, (get_set_ne (by omega)).trans h.k2, (get_set_ne (by omega)).trans h.k3, (get_set_ne (by omega)).trans h.k4, (get_set_ne (by omega)).trans h.k5, (get_set_ne (by omega)).trans h.kind, (get_set_ne (by omega)).trans h.ar, (get_set_ne (by omega)).trans h.e, (get_set_ne (by omega)).trans h.body, h.p.same (Same.set c (a := 25) (b := 25) _ (by omega)) (by omega), (get_set_ne (by omega)).trans h.pc, (get_set_ne (by omega)).trans h.gen, get_set (by omega)⟩
theorem MkAt.put_full {c : Array Value} {K : Cf} {m : Mk} (h : MkAt c K m) (v : Bool) : MkAt (c.setIfInBounds 1 (.bool v)) K { m with full := v } := by
  have := h.size
  exact ⟨(get_set_ne (by omega)).trans h.sl, get_set (by omega), (get_set_ne (by omega)).trans h.k0, (get_set_ne (by omega)).trans h.k1, (get_set_ne (by omega)).trans h.k2, (get_set_ne (by omega)).trans h.k3, (get_set_ne (by omega)).trans h.k4, (get_set_ne (by omega)).trans h.k5, (get_set_ne (by omega)).trans h.kind, (get_set_ne (by omega)).trans h.ar, (get_set_ne (by omega)).trans h.e, (get_set_ne (by omega)).trans h.body, h.p.same (Same.set c (a := 1) (b := 1) _ (by omega)) (by omega), (get_set_ne (by omega)).trans h.pc, (get_set_ne (by omega)).trans h.gen, (get_set_ne (by omega)).trans h.nx⟩
theorem MkAt.put_sl {c : Array Value} {K : Cf} {m : Mk} (h : MkAt c K m) (v : Int) : MkAt (c.setIfInBounds 0 (.int .i64 v)) K { m with sl := v } := by
  have := h.size
  exact ⟨get_set (by omega), (get_set_ne (by omega)).trans h.full, (get_set_ne (by omega)).trans h.k0, (get_set_ne (by omega)).trans h.k1, (get_set_ne (by omega)).trans h.k2, (get_set_ne (by omega)).trans h.k3, (get_set_ne (by omega)).trans h.k4, (get_set_ne (by omega)).trans h.k5, (get_set_ne (by omega)).trans h.kind, (get_set_ne (by omega)).trans h.ar, (get_set_ne (by omega)).trans h.e, (get_set_ne (by omega)).trans h.body, h.p.same (Same.set c (a := 0) (b := 0) _ (by omega)) (by omega), (get_set_ne (by omega)).trans h.pc, (get_set_ne (by omega)).trans h.gen, (get_set_ne (by omega)).trans h.nx⟩

def Mk.slot (m : Mk) : Nat := m.p.sl.toNat
/-- The generation of a header's word, 0 where it is no right one. -/
def genW (W : Nat) : Nat := if okW W = true then W / 65536 % 4294967296 else 0
theorem genW_lt (W : Nat) : genW W < 4294967296 := by unfold genW; split <;> omega
/-- The word of what is made. -/
def madeW (k a n e : Nat) : Nat := wordOf k (bornN e) (false : Bool).toNat a n 0
/-- A Make's step on the words. -/
def mkX (K : Cf) (X : List Nat) (m : Mk) : List Nat × Mk :=
  if m.pc = 0 then
    ((popX K X m.p).1, if (popX K X m.p).2.pc = 3 then
        (if (popX K X m.p).2.em = true then { m with p := (popX K X m.p).2, full := true, pc := 4 } else { m with p := (popX K X m.p).2, pc := 1 })
      else { m with p := (popX K X m.p).2 })
  else if m.pc = 1 then (X, { m with gen := genW (X.getD (K.hd m.slot) 0), pc := 2 })
  else if m.pc = 2 then (X.set (K.bd m.slot m.nx) (m.body.getD m.nx 0), { m with nx := m.nx + 1, pc := if m.nx + 1 = m.body.length then 3 else 2 })
  else if m.pc = 3 then (X.set (K.hd m.slot) (madeW m.kind m.ar m.gen m.e), { m with sl := m.p.sl, pc := 4 })
  else (X, m)
structure Mk.Ok (m : Mk) (K : Cf) : Prop where
  kind : m.kind = 1 ∨ m.kind = 2
  ar : m.ar < 16
  e : m.e < 18446744073709551616
  len : m.body.length = K.B
  fits : ∀ i, m.body.getD i 0 < 18446744073709551616
  wf : PWf K m.p
  pc : m.pc ≤ 4
  p0 : m.pc = 0 → m.p.pc ≤ 2
  some : 1 ≤ m.pc → m.pc ≤ 3 → ∃ s : Nat, s < K.S ∧ m.p.sl = (s : Int)
  gen : m.gen < 4294967296
  nx : m.pc ≤ 2 → m.nx < K.B

set_option maxHeartbeats 2000000 in
theorem take_go {w : World} {M G N P : Nat} {X' : List Nat} {T' : Int} {c : Array Value} {t : TypeId} {K : Cf} {m : Mk} {p' : PS} (hm : MkAt c K m)
    (c0 : Calls Tryd.prog 67 #[.pointer (some ⟨P, 12, none⟩), .pointer (some ⟨M, 0, none⟩)] w fun r w' => r = .returned (.bool false) ∧ ∃ c', InA w w' M G N X' T' P c' t ∧ PoAt c' 12 K p' ∧ Same c c' 12 22) :
    Calls Tryd.prog 48 #[.pointer (some ⟨P, 0, none⟩), .pointer (some ⟨M, 0, none⟩)] w fun r w' => r = .returned (.tuple #[]) ∧ ∃ c', InA w w' M G N X' T' P c' t ∧ MkAt c' K { m with p := p' } := by
  go_enter Tryd.func48, Tryd.ntmps48
  go_wp2_with (go_at_call 67; refine c0.mono ?_; rintro e w1 ⟨rfl, c1, i1, p1, s1⟩)
  exact bodyPost_ret (results_none rfl _ _ _) rfl ⟨rfl, c1, i1, hm.pop s1 p1⟩

set_option maxHeartbeats 2000000 in
theorem take_done {w : World} {M G N P : Nat} {X' : List Nat} {T' : Int} {c : Array Value} {t : TypeId} {K : Cf} {m : Mk} {p' : PS} (hm : MkAt c K m)
    (c0 : Calls Tryd.prog 67 #[.pointer (some ⟨P, 12, none⟩), .pointer (some ⟨M, 0, none⟩)] w fun r w' => r = .returned (.bool true) ∧ ∃ c', InA w w' M G N X' T' P c' t ∧ PoAt c' 12 K p' ∧ Same c c' 12 22) :
    Calls Tryd.prog 48 #[.pointer (some ⟨P, 0, none⟩), .pointer (some ⟨M, 0, none⟩)] w fun r w' => r = .returned (.tuple #[]) ∧ ∃ c', InA w w' M G N X' T' P c' t ∧ MkAt c' K (if p'.em = true then { m with p := p', full := true, pc := 4 } else { m with p := p', pc := 1 }) := by
  obtain ⟨sl', em', pc', tp', nx'⟩ := p'
  simp only
  cases em'
  · simp only [Bool.false_eq_true, if_false]
    go_enter Tryd.func48, Tryd.ntmps48
    go_upto_region 1 with (go_at_call 67; refine c0.mono ?_; rintro e w1 ⟨rfl, c1, i1, p1, s1⟩)
    replace hm := hm.pop s1 p1
    have l23 := i1.cell hm.pc
    have f23 := i1.free 23
    have i2 := i1.set 23 (.int .i64 1)
    replace hm : MkAt (c1.setIfInBounds 23 (.int .i64 1)) K _ := hm.put_pc 1
    clear c0 i1 p1 s1
    go_upto_region 2 with fail
    clear l23 f23
    generalize w1.setCell ⟨P, 23, none⟩ (.int .i64 1) = w2 at *
    have l13 := i2.cell hm.p.em
    simp only at l13
    go_wp2
    go_end0
    exact ⟨rfl, _, i2, hm⟩
  · simp only [if_true]
    go_enter Tryd.func48, Tryd.ntmps48
    go_upto_region 1 with (go_at_call 67; refine c0.mono ?_; rintro e w1 ⟨rfl, c1, i1, p1, s1⟩)
    replace hm := hm.pop s1 p1
    have l23 := i1.cell hm.pc
    have f23 := i1.free 23
    have i2 := i1.set 23 (.int .i64 1)
    replace hm : MkAt (c1.setIfInBounds 23 (.int .i64 1)) K _ := hm.put_pc 1
    clear c0 i1 p1 s1
    go_upto_region 2 with fail
    clear l23 f23
    generalize w1.setCell ⟨P, 23, none⟩ (.int .i64 1) = w2 at *
    generalize c1.setIfInBounds 23 (.int .i64 1) = c2 at *
    have l13 := i2.cell hm.p.em
    simp only at l13
    have l1 := i2.cell hm.full
    have f1 := i2.free 1
    have i3 := i2.set 1 (.bool true)
    replace hm := hm.put_full true
    go_upto_region 4 with fail
    clear l13 l1 f1 i2
    generalize w2.setCell ⟨P, 1, none⟩ (.bool true) = w3 at *
    have l23 := i3.cell hm.pc
    have f23 := i3.free 23
    have i4 := i3.set 23 (.int .i64 4)
    replace hm := hm.put_pc 4
    clear i3
    go_wp2
    go_end0
    exact ⟨rfl, _, i4, hm⟩

/-- The cells that the store of a body's word reads. -/
theorem MkAt.rdW {w wr : World} {M G N P : Nat} {X : List Nat} {T : Int} {c : Array Value} {t : TypeId} {K : Cf} {m : Mk} (h : MkAt c K m) (is : InA w wr M G N X T P c t) (hb : IsWords wr m.bb m.body) (hi : m.nx < m.body.length) :
    wr.cell? ⟨P, 2, none⟩ = some (.int .i64 (K.S : Nat)) ∧ wr.cell? ⟨P, 3, none⟩ = some (.int .i64 K.a) ∧ wr.cell? ⟨P, 4, none⟩ = some (.int .i64 (K.C : Nat)) ∧ wr.cell? ⟨P, 5, none⟩ = some (.int .i64 (K.D : Nat)) ∧ wr.cell? ⟨P, 6, none⟩ = some (.int .i64 K.g) ∧ wr.cell? ⟨P, 7, none⟩ = some (.int .i64 K.k) ∧ wr.cell? ⟨P, 12, none⟩ = some (.int .i64 m.p.sl) ∧ wr.cell? ⟨P, 25, none⟩ = some (.int .i64 (m.nx : Nat)) ∧ wr.cell? ⟨P, 11, none⟩ = some (.slice (some ⟨m.bb, 0, none⟩) m.body.length m.body.length) ∧ wr.cell? ⟨m.bb, m.nx, none⟩ = some (.int .u64 (m.body.getD m.nx 0 : Nat)) :=
  ⟨is.cell h.k0, is.cell h.k1, is.cell h.k2, is.cell h.k3, is.cell h.k4, is.cell h.k5, is.cell h.p.sl, is.cell h.nx, is.cell h.body, Mm.words_at hb _ hi⟩
theorem words_chg {L : List Nat} {w w' : World} {R : Nat} {X : List Nat} (h : IsWords w R X) (c : Chg L w w') (hn : R ∉ L) : IsWords w' R X := c.at (show w.heap[R]? = _ from h) hn

set_option maxHeartbeats 4000000 in
theorem storeWord_as {w : World} {M G N P : Nat} {X : List Nat} {T : Int} {c : Array Value} {t : TypeId} {K : Cf} {m : Mk} (is : InA w w M G N X T P c t) (hm : MkAt c K m) (hT : T + 1 < 4611686018427387904) {L s : Nat} (hL : L < N) (hs : m.p.sl = (s : Int)) (hi : m.nx < m.body.length) (hl8 : m.body.length ≤ 8) (hb : IsWords w m.bb m.body) (hbb : m.bb ∉ [P, M, G]) {v : Nat} (hv : m.body.getD m.nx 0 = v) (hv64 : v < 18446744073709551616)
    (c1 : ∀ w, Calls Tryd.prog 59 #[.agg (cs K.S K.a K.C K.D K.g K.k), .int .i64 (s : Nat), .int .i64 (m.nx : Nat)] w fun e w' => e = .returned (.int .i64 (L : Nat)) ∧ Below w.heap.size w w') :
    Calls Tryd.prog 51 #[.pointer (some ⟨P, 0, none⟩), .pointer (some ⟨M, 0, none⟩)] w fun r w' => r = .returned (.tuple #[]) ∧ ∃ c', InA w w' M G N (X.set L v) (T + 1) P c' t ∧ MkAt c' K { m with nx := m.nx + 1, pc := if m.nx + 1 = m.body.length then 3 else m.pc } := by
  have htb := is.tb
  have hlen := is.len
  have c0 : ∀ wr, InA w wr M G N X T P c t → Calls Tryd.prog 24 #[.pointer (some ⟨M, 0, none⟩), .int .i64 (L : Nat), .int .u64 (v : Nat)] wr fun e w' => e = .returned (.bool true) ∧ InA w w' M G N (X.set L v) (T + 1) P c t := fun wr x =>
    (storeX x.mem (by rw [hlen]; exact hL) hv64 htb).mono fun e w' ⟨h1, h2, h3⟩ => ⟨h1, x.only h2 h3 (by rw [List.length_set]; exact hlen) (by omega)⟩
  have hrd : ∀ wr X T, InA w wr M G N X T P c t → _ := fun wr X T x => hm.rdW x (words_chg hb x.ch hbb) hi
  rw [hv, hs] at hrd
  have n1 := hm.put_nx (m.nx + 1)
  have n2 := n1.put_pc 3
  have hrn : ∀ wr X T, InA w wr M G N X T P c t → wr.cell? ⟨P, 25, none⟩ = some (.int .i64 (m.nx : Nat)) ∧ wr.frozen? ⟨P, 25, none⟩ = false := fun wr X T x => ⟨x.cell hm.nx, x.free 25⟩
  clear hL hv hv64 hb hbb
  generalize hn : m.body.length = n at *
  obtain ⟨z, hz⟩ : ∃ z, (if m.nx + 1 = n then 3 else m.pc) = z := ⟨_, rfl⟩
  rw [hz]
  replace is := is.below (Below.refl _ _)
  go_enter Tryd.func51, Tryd.ntmps51
  go_upto_region 0 with fail
  replace is := is.drew
  go_region_held (fun wr => wr.cell? ⟨P, 2, none⟩ = some (.int .i64 (K.S : Nat)) ∧ wr.cell? ⟨P, 3, none⟩ = some (.int .i64 K.a) ∧ wr.cell? ⟨P, 4, none⟩ = some (.int .i64 (K.C : Nat)) ∧ wr.cell? ⟨P, 5, none⟩ = some (.int .i64 (K.D : Nat)) ∧ wr.cell? ⟨P, 6, none⟩ = some (.int .i64 K.g) ∧ wr.cell? ⟨P, 7, none⟩ = some (.int .i64 K.k) ∧ wr.cell? ⟨P, 12, none⟩ = some (.int .i64 (s : Nat)) ∧ wr.cell? ⟨P, 25, none⟩ = some (.int .i64 (m.nx : Nat)) ∧ wr.cell? ⟨P, 11, none⟩ = some (.slice (some ⟨m.bb, 0, none⟩) n n) ∧ wr.cell? ⟨m.bb, m.nx, none⟩ = some (.int .u64 (v : Nat))) (with_reducible exact hrd _ _ _ is) (first
    | (go_at_call 59; with_reducible refine (c1 _).mono ?_; rintro e w3 ⟨rfl, b⟩; replace is := is.below b)
    | (go_at_call 24; with_reducible refine (c0 _ is).mono ?_; rintro e w3 ⟨rfl, i1⟩; clear is; have is := i1; clear i1))
  clear c0 c1 hrd
  obtain ⟨l25, f25⟩ := hrn _ _ _ is
  have i2 := is.set 25 (.int .i64 ((m.nx + 1 : Nat) : Int))
  push_cast at i2
  have q1 : IntKind.i64.wrap ((m.nx : Int) + 1) = (m.nx : Int) + 1 := by rw [IntKind.wrap_i64]; omega
  clear is hrn
  go_upto_region 2 with fail
  clear l25 f25
  generalize w3.setCell ⟨P, 25, none⟩ (.int .i64 ((m.nx : Int) + 1)) = w4 at *
  push_cast at n1 n2
  have k25 := i2.cell n1.nx
  have k11 := i2.cell n1.body
  simp only [hn] at k11
  push_cast at k25
  replace i2 := i2.drew
  by_cases he : m.nx + 1 = n
  · obtain rfl : z = 3 := by rw [← hz, if_pos he]
    have he' : ((m.nx : Int) + 1 == (n : Int)) = true := by simp; omega
    clear hz q1 hi he
    have k23 := i2.cell n1.pc
    have f23 := i2.free 23
    replace i2 := i2.set 23 (.int .i64 3)
    generalize (m.nx : Int) + 1 = j at *
    go_region_held (fun wr => wr.cell? ⟨P, 25, none⟩ = some (.int .i64 j) ∧ wr.cell? ⟨P, 11, none⟩ = some (.slice (some ⟨m.bb, 0, none⟩) n n)) (exact ⟨k25, k11⟩) (fail)
    go_wp2
    go_end0
    exact ⟨rfl, _, i2, n2⟩
  · obtain rfl : z = m.pc := by rw [← hz, if_neg he]
    have he' : ((m.nx : Int) + 1 == (n : Int)) = false := by simp; omega
    clear hz q1 hi n2 he
    generalize (m.nx : Int) + 1 = j at *
    go_region_held (fun wr => wr.cell? ⟨P, 25, none⟩ = some (.int .i64 j) ∧ wr.cell? ⟨P, 11, none⟩ = some (.slice (some ⟨m.bb, 0, none⟩) n n)) (exact ⟨k25, k11⟩) (fail)
    go_wp2
    go_end0
    exact ⟨rfl, _, i2, n1⟩

/-- The cells that the store of the header reads. -/
theorem MkAt.rdH {w wr : World} {M G N P : Nat} {X : List Nat} {T : Int} {c : Array Value} {t : TypeId} {K : Cf} {m : Mk} (h : MkAt c K m) (is : InA w wr M G N X T P c t) :
    wr.cell? ⟨P, 8, none⟩ = some (.int .i64 (m.kind : Nat)) ∧ wr.cell? ⟨P, 9, none⟩ = some (.int .i64 (m.ar : Nat)) ∧ wr.cell? ⟨P, 24, none⟩ = some (.int .i64 (m.gen : Nat)) ∧ wr.cell? ⟨P, 10, none⟩ = some (.int .u64 (m.e : Nat)) :=
  ⟨is.cell h.kind, is.cell h.ar, is.cell h.gen, is.cell h.e⟩
theorem MkAt.rdC {w wr : World} {M G N P : Nat} {X : List Nat} {T : Int} {c : Array Value} {t : TypeId} {K : Cf} {m : Mk} (h : MkAt c K m) (is : InA w wr M G N X T P c t) :
    wr.cell? ⟨P, 2, none⟩ = some (.int .i64 (K.S : Nat)) ∧ wr.cell? ⟨P, 3, none⟩ = some (.int .i64 K.a) ∧ wr.cell? ⟨P, 4, none⟩ = some (.int .i64 (K.C : Nat)) ∧ wr.cell? ⟨P, 5, none⟩ = some (.int .i64 (K.D : Nat)) ∧ wr.cell? ⟨P, 6, none⟩ = some (.int .i64 K.g) ∧ wr.cell? ⟨P, 7, none⟩ = some (.int .i64 K.k) ∧ wr.cell? ⟨P, 12, none⟩ = some (.int .i64 m.p.sl) :=
  ⟨is.cell h.k0, is.cell h.k1, is.cell h.k2, is.cell h.k3, is.cell h.k4, is.cell h.k5, is.cell h.p.sl⟩

set_option maxHeartbeats 4000000 in
theorem storeHeader_as {w : World} {M G N P : Nat} {X : List Nat} {T : Int} {c : Array Value} {t : TypeId} {K : Cf} {m : Mk} (is : InA w w M G N X T P c t) (hm : MkAt c K m) (hT : T + 1 < 4611686018427387904) {L s : Nat} (hL : L < N) (hs : m.p.sl = (s : Int)) {V : Nat} (hV : V < 18446744073709551616)
    (c1 : ∀ w, WT w → Calls Tryd.prog 70 #[.int .i64 (m.kind : Nat), .int .i64 (m.ar : Nat), .int .i64 (m.gen : Nat), .int .u64 (m.e : Nat)] w fun e w' => e = .returned (.tuple #[.int .u64 (V : Nat), .bool true]) ∧ Below w.heap.size w w')
    (c2 : ∀ w, Calls Tryd.prog 39 #[.agg (cs K.S K.a K.C K.D K.g K.k), .int .i64 (s : Nat)] w fun e w' => e = .returned (.int .i64 (L : Nat)) ∧ Below w.heap.size w w') :
    Calls Tryd.prog 52 #[.pointer (some ⟨P, 0, none⟩), .pointer (some ⟨M, 0, none⟩)] w fun r w' => r = .returned (.tuple #[]) ∧ ∃ c', InA w w' M G N (X.set L V) (T + 1) P c' t ∧ MkAt c' K { m with sl := m.p.sl, pc := 4 } := by
  have htb := is.tb
  have hlen := is.len
  have c0 : ∀ wr, InA w wr M G N X T P c t → Calls Tryd.prog 24 #[.pointer (some ⟨M, 0, none⟩), .int .i64 (L : Nat), .int .u64 (V : Nat)] wr fun e w' => e = .returned (.bool true) ∧ InA w w' M G N (X.set L V) (T + 1) P c t := fun wr x =>
    (storeX x.mem (by rw [hlen]; exact hL) hV htb).mono fun e w' ⟨h1, h2, h3⟩ => ⟨h1, x.only h2 h3 (by rw [List.length_set]; exact hlen) (by omega)⟩
  have hrd : ∀ wr X T, InA w wr M G N X T P c t → _ := fun wr X T x => hm.rdH x
  have hrc : ∀ wr X T, InA w wr M G N X T P c t → _ := fun wr X T x => hm.rdC x
  rw [hs] at hrc
  have n1 := hm.put_sl m.p.sl
  have n2 := n1.put_pc 4
  have l12 : ∀ wr X T, InA w wr M G N X T P c t → wr.cell? ⟨P, 12, none⟩ = some (.int .i64 m.p.sl) ∧ wr.cell? ⟨P, 0, none⟩ = some (.int .i64 m.sl) ∧ wr.frozen? ⟨P, 0, none⟩ = false := fun wr X T x => ⟨x.cell hm.p.sl, x.cell hm.sl, x.free 0⟩
  rw [hs] at l12
  rw [hs] at n1 n2
  rw [hs]
  clear hL hV hs hm
  generalize (m.kind : Int) = kind at *
  generalize (m.ar : Int) = ar at *
  generalize (m.gen : Int) = gen at *
  generalize (m.e : Int) = e at *
  generalize (V : Int) = v at *
  replace is := is.below (Below.refl _ _)
  go_enter Tryd.func52, Tryd.ntmps52
  go_upto_region 0 with fail
  replace is := is.drew
  go_region_held (fun wr => wr.cell? ⟨P, 8, none⟩ = some (.int .i64 kind) ∧ wr.cell? ⟨P, 9, none⟩ = some (.int .i64 ar) ∧ wr.cell? ⟨P, 24, none⟩ = some (.int .i64 gen) ∧ wr.cell? ⟨P, 10, none⟩ = some (.int .u64 e)) (with_reducible exact hrd _ _ _ is) (first
    | (go_at_call 70; with_reducible refine (c1 _ is.wt).mono ?_; rintro e w3 ⟨rfl, b⟩; replace is := is.below b))
  clear c1 hrd b
  go_upto_region 1 with fail
  replace is := is.drew
  go_region_held (fun wr => wr.cell? ⟨P, 2, none⟩ = some (.int .i64 (K.S : Nat)) ∧ wr.cell? ⟨P, 3, none⟩ = some (.int .i64 K.a) ∧ wr.cell? ⟨P, 4, none⟩ = some (.int .i64 (K.C : Nat)) ∧ wr.cell? ⟨P, 5, none⟩ = some (.int .i64 (K.D : Nat)) ∧ wr.cell? ⟨P, 6, none⟩ = some (.int .i64 K.g) ∧ wr.cell? ⟨P, 7, none⟩ = some (.int .i64 K.k) ∧ wr.cell? ⟨P, 12, none⟩ = some (.int .i64 (s : Nat))) (with_reducible exact hrc _ _ _ is) (first
    | (go_at_call 39; with_reducible refine (c2 _).mono ?_; rintro e w4 ⟨rfl, b⟩; replace is := is.below b)
    | (go_at_call 24; with_reducible refine (c0 _ is).mono ?_; rintro e w4 ⟨rfl, i1⟩; clear is; have is := i1; clear i1))
  clear c0 c2 hrc b
  obtain ⟨k12, k0, f0⟩ := l12 _ _ _ is
  have i2 := is.set 0 (.int .i64 (s : Nat))
  clear l12 is
  go_upto_region 3 with fail
  clear k12 k0 f0
  generalize w4.setCell ⟨P, 0, none⟩ (.int .i64 (s : Nat)) = w5 at *
  have k23 := i2.cell n1.pc
  have f23 := i2.free 23
  replace i2 := i2.set 23 (.int .i64 4)
  go_wp2
  go_end0
  exact ⟨rfl, _, i2, n2⟩
end Go.Proofs.YtjbjijkkmlehgaaDoor
