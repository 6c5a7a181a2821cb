/- What the machines of stack and arena work on: words and touches; a block of cells beside them. -/
import Derived.Test.YtjbjijkkmlehgaaDoorSBase
import Derived.Test.YtjbjijkkmlehgaaDoorMMake
namespace Go.Proofs.YtjbjijkkmlehgaaDoor
open Go.RowKit
open Mm (IsMem MS touched Only)
open Hh (WT)

/-! A memory's methods, told by its words. -/
theorem loadX {w : World} {M G : Nat} {X : List Nat} {T : Int} (h : MemX w M G X T) {i : Nat} (hi : i < X.length) (ht : 0 ≤ T ∧ T < 4611686018427387904) {v : Nat} (hv : X.getD i 0 = v) :
    Calls Tryd.prog 50 #[.pointer (some ⟨M, 0, none⟩), .int .i64 (i : Nat)] w fun e w' => e = .returned (.int .u64 (v : Nat)) ∧ MemX w' M G X (T + 1) ∧ Only M G w w' := by
  obtain ⟨m, hm, rfl, rfl⟩ := h
  have c := Mm.load_in hm i hi ht
  rw [hv] at c
  exact c.mono fun e w' ⟨h1, h2, h3⟩ => ⟨h1, ⟨_, h2, by rw [← hv]; exact touched_X m 1 i, rfl⟩, h3⟩
theorem storeX {w : World} {M G : Nat} {X : List Nat} {T : Int} (h : MemX w M G X T) {i v : Nat} (hi : i < X.length) (hv : v < 18446744073709551616) (ht : 0 ≤ T ∧ T < 4611686018427387904) :
    Calls Tryd.prog 24 #[.pointer (some ⟨M, 0, none⟩), .int .i64 (i : Nat), .int .u64 (v : Nat)] w fun e w' => e = .returned (.bool true) ∧ MemX w' M G (X.set i v) (T + 1) ∧ Only M G w w' := by
  obtain ⟨m, hm, rfl, rfl⟩ := h
  exact (Mm.store_in hm i v hi hv ht).mono fun e w' ⟨h1, h2, h3⟩ => ⟨h1, ⟨_, h2, rfl, rfl⟩, h3⟩
theorem swapX_yes {w : World} {M G : Nat} {X : List Nat} {T : Int} (h : MemX w M G X T) {i o v : Nat} (hi : i < X.length) (hv : v < 18446744073709551616) (ho : X.getD i 0 = o) (ht : 0 ≤ T ∧ T < 4611686018427387904) :
    Calls Tryd.prog 94 #[.pointer (some ⟨M, 0, none⟩), .int .i64 (i : Nat), .int .u64 (o : Nat), .int .u64 (v : Nat)] w fun e w' => e = .returned (.bool true) ∧ MemX w' M G (X.set i v) (T + 1) ∧ Only M G w w' := by
  obtain ⟨m, hm, rfl, rfl⟩ := h
  exact (Mm.swap_yes hm i o v hi hv ho ht).mono fun e w' ⟨h1, h2, h3⟩ => ⟨h1, ⟨_, h2, rfl, rfl⟩, h3⟩
theorem swapX_no {w : World} {M G : Nat} {X : List Nat} {T : Int} (h : MemX w M G X T) {i o v : Nat} (hi : i < X.length) (ho : X.getD i 0 ≠ o) (ht : 0 ≤ T ∧ T < 4611686018427387904) :
    Calls Tryd.prog 94 #[.pointer (some ⟨M, 0, none⟩), .int .i64 (i : Nat), .int .u64 (o : Nat), .int .u64 (v : Nat)] w fun e w' => e = .returned (.bool false) ∧ MemX w' M G X (T + 1) ∧ Only M G w w' := by
  obtain ⟨m, hm, rfl, rfl⟩ := h
  exact (Mm.swap_no hm i o v hi ho ht).mono fun e w' ⟨h1, h2, h3⟩ => ⟨h1, ⟨_, h2, touched_X m 3 i, rfl⟩, h3⟩

/-- What is known of the world within a step of a machine that lies in block P. -/
structure InA (w wr : World) (M G N : Nat) (X : List Nat) (T : Int) (P : Nat) (c : Array Value) (t : TypeId) : Prop where
  mem : MemX wr M G X T
  wt : WT wr
  len : X.length = N
  tb : 0 ≤ T ∧ T < 4611686018427387904
  blk : wr.heap[P]? = some (.cells c t (0, 0))
  ch : Chg [P, M, G] w wr
  hP : P ≠ M ∧ P ≠ G
  pos : 0 < P ∧ 0 < M ∧ 0 < G
theorem InA.below {w wr w' : World} {M G N P : Nat} {X : List Nat} {T : Int} {c : Array Value} {t : TypeId} (h : InA w wr M G N X T P c t) (b : Below wr.heap.size wr w') : InA w w' M G N X T P c t :=
  ⟨h.mem.below b, h.wt.below b, h.len, h.tb, (b.block P (lt_of_block h.blk)).trans h.blk, h.ch.then_below b, h.hP, h.pos⟩
theorem InA.drew {w wr : World} {M G N P : Nat} {X : List Nat} {T : Int} {c : Array Value} {t : TypeId} (h : InA w wr M G N X T P c t) : InA w wr.drew M G N X T P c t := h.below (Below.refl _ _).drew
theorem InA.only {w wr w' : World} {M G N P : Nat} {X X' : List Nat} {T T' : Int} {c : Array Value} {t : TypeId} (h : InA w wr M G N X T P c t) (hm : MemX w' M G X' T') (o : Only M G wr w') (hl : X'.length = N) (ht : 0 ≤ T' ∧ T' < 4611686018427387904) : InA w w' M G N X' T' P c t := by
  have c : Chg [M, G] wr w' := Chg.of_only o (by simp) (by simp)
  have hp := h.pos
  exact ⟨hm, WT.chg h.wt c (by simp; omega), hl, ht, (o.block P (lt_of_block h.blk) h.hP.1 h.hP.2).trans h.blk, h.ch.trans (Chg.of_only o (by simp) (by simp)), h.hP, h.pos⟩
theorem InA.set {w wr : World} {M G N P : Nat} {X : List Nat} {T : Int} {c : Array Value} {t : TypeId} (h : InA w wr M G N X T P c t) (i : Nat) (v : Value) : InA w (wr.setCell ⟨P, i, none⟩ v) M G N X T P (c.setIfInBounds i v) t := by
  have ch : Chg [P] wr (wr.setCell ⟨P, i, none⟩ v) := (Chg.refl [P] wr).setCell (by simp) v
  have hp := h.pos
  have hP := h.hP
  exact ⟨h.mem.chg ch (by simp; omega) (by simp; omega), WT.chg h.wt ch (by simp; omega), h.len, h.tb, Mm.heap_setCell_at h.blk v, h.ch.trans ((Chg.refl [P, M, G] wr).setCell (by simp) v), h.hP, h.pos⟩
theorem InA.cell {w wr : World} {M G N P : Nat} {X : List Nat} {T : Int} {c : Array Value} {t : TypeId} (h : InA w wr M G N X T P c t) {i : Nat} {v : Value} (hi : c[i]? = some v) : wr.cell? ⟨P, i, none⟩ = some v := by
  unfold World.cell?
  simp only [h.blk]
  exact hi
theorem InA.free {w wr : World} {M G N P : Nat} {X : List Nat} {T : Int} {c : Array Value} {t : TypeId} (h : InA w wr M G N X T P c t) (i : Nat) : wr.frozen? ⟨P, i, none⟩ = false := by
  have h' := h.blk
  simp [World.frozen?, h']
theorem InA.restart {w wr : World} {M G N P : Nat} {X : List Nat} {T : Int} {c : Array Value} {t : TypeId} (h : InA w wr M G N X T P c t) : InA wr wr M G N X T P c t :=
  ⟨h.mem, h.wt, h.len, h.tb, h.blk, Chg.refl _ _, h.hP, h.pos⟩
theorem InA.join {w wr w' : World} {M G N P : Nat} {X X' : List Nat} {T T' : Int} {c c' : Array Value} {t : TypeId} (h : InA w wr M G N X T P c t) (k : InA wr w' M G N X' T' P c' t) : InA w w' M G N X' T' P c' t :=
  ⟨k.mem, k.wt, k.len, k.tb, k.blk, h.ch.trans k.ch, k.hP, k.pos⟩

/-- A cell of an array that is set to what it has. -/
theorem set_get {c : Array Value} {i : Nat} {v : Value} (h : c[i]? = some v) : c.setIfInBounds i v = c := by
  apply Array.ext_getElem?
  intro j
  rw [Array.getElem?_setIfInBounds]
  split
  · rename_i e; subst e
    rw [if_pos (Array.getElem?_eq_some_iff.1 h).1, h]
  · rfl
theorem get_set_ne {c : Array Value} {i j : Nat} {v : Value} (h : i ≠ j) : (c.setIfInBounds i v)[j]? = c[j]? := by rw [Array.getElem?_setIfInBounds, if_neg h]
theorem get_set {c : Array Value} {i : Nat} {v : Value} (h : i < c.size) : (c.setIfInBounds i v)[i]? = some v := by rw [Array.getElem?_setIfInBounds, if_pos rfl, if_pos h]
theorem lt_get {c : Array Value} {i : Nat} {v : Value} (h : c[i]? = some v) : i < c.size := (Array.getElem?_eq_some_iff.1 h).1
/-- Cells outside a part stay. -/
structure Same (c c' : Array Value) (a b : Nat) : Prop where
  size : c'.size = c.size
  out : ∀ i, (i < a ∨ b < i) → c'[i]? = c[i]?
theorem Same.refl (c : Array Value) (a b : Nat) : Same c c a b := ⟨rfl, fun _ _ => rfl⟩
theorem Same.trans {c d e : Array Value} {a b : Nat} (h : Same c d a b) (k : Same d e a b) : Same c e a b := ⟨k.size.trans h.size, fun i hi => (k.out i hi).trans (h.out i hi)⟩
theorem Same.set (c : Array Value) {a b i : Nat} (v : Value) (h : a ≤ i ∧ i ≤ b) : Same c (c.setIfInBounds i v) a b := ⟨by simp, fun j hj => get_set_ne (by omega)⟩

/-- Where a word of a slot's body stands. -/
def Cf.bd (K : Cf) (s i : Nat) : Nat := K.hd s + 2 + i
theorem Cf.bd_lt (K : Cf) {s i : Nat} (hs : s < K.S) (hi : i < K.B) : K.bd s i < K.N := by
  have h1 : (s + 1) * (2 + K.B) ≤ K.S * (2 + K.B) := Nat.mul_le_mul_right _ hs
  rw [Nat.succ_mul] at h1
  unfold Cf.bd Cf.hd Cf.N nW; omega
theorem Cf.bd_4 (K : Cf) (s i : Nat) : 4 < K.bd s i := by unfold Cf.bd Cf.hd; omega
theorem body_at {K : Cf} (hK : K.Ok) {s i : Nat} (hs : s < K.S) (hi : i < K.B) {j : Int} (hj : (s : Int) = j) {u : Int} (hu : (i : Int) = u) (w : World) :
    Calls Tryd.prog 59 #[.agg K.cs, .int .i64 j, .int .i64 u] w fun e w' => e = .returned (.int .i64 (K.bd s i : Nat)) ∧ Below w.heap.size w w' := by
  subst hj hu
  have h := body_yes (s := K.S) (a := K.a) (c := K.C) (d := K.D) (g := K.g) (k := K.k) s i hK.r (be_iff.2 (by omega)) (be_iff.2 (by rw [hK.b]; omega)) w
  have e : fsI K.C K.D + (s : Int) * ssI K.a + 2 + (i : Int) = ((K.bd s i : Nat) : Int) := by
    unfold fsI ssI Cf.bd Cf.hd
    rw [hK.b]
    push_cast
    omega
  rw [e] at h
  exact h
theorem header_at {K : Cf} (hK : K.Ok) {s : Nat} (hs : s < K.S) {j : Int} (hj : (s : Int) = j) (w : World) :
    Calls Tryd.prog 39 #[.agg K.cs, .int .i64 j] w fun e w' => e = .returned (.int .i64 (K.hd s : Nat)) ∧ Below w.heap.size w w' := by
  subst hj
  have h := header_yes (s := K.S) (a := K.a) (c := K.C) (d := K.D) (g := K.g) (k := K.k) s hK.r (be_iff.2 (by omega)) w
  have e : fsI K.C K.D + (s : Int) * ssI K.a = ((K.hd s : Nat) : Int) := by
    unfold fsI ssI Cf.hd
    rw [hK.b]
    push_cast
    omega
  rw [e] at h
  exact h
end Go.Proofs.YtjbjijkkmlehgaaDoor
