/- Machines of package shade as they lie in the heap, and which blocks a step may turn: no walk in sight. -/
import Derived.Test.YtcioomopgdhlmaaGreatDoorPMem
import Derived.Test.YtcioomopgdhlmaaGreatDoorPSizes
import Derived.Test.YtcioomopgdhlmaaGreatDoorMA
import Derived.Test.YtcioomopgdhlmaaGreatDoorTA
import Derived.Deep.RegionHeld
import Derived.Test.YtcioomopgdhlmaaGreatDoorHC
namespace Go.Proofs.YtcioomopgdhlmaaGreatDoor
open Go.RowKit
open Mm (IsMem MS touched Only)

/-- A config that is right, its numbers as natural ones. -/
structure Cf where
  S : Nat
  a : Int
  C : Nat
  D : Nat
  g : Int
  k : Int
  B : Nat

structure Cf.Ok (K : Cf) : Prop where
  r : rightB K.S K.a K.C K.D K.g K.k = true
  b : bsI K.a = (K.B : Int)
  b8 : K.B ≤ 8
  c8 : K.C ≤ 8
  d16 : K.D ≤ 16
  s64 : K.S ≤ 64
  s1 : 1 ≤ K.S
  d1 : 1 ≤ K.D

abbrev Cf.cs (K : Cf) : Array Value := #[.int .i64 (K.S : Nat), .int .i64 K.a, .int .i64 (K.C : Nat), .int .i64 (K.D : Nat), .int .i64 K.g, .int .i64 K.k]
def Cf.N (K : Cf) : Nat := nW K.C K.D K.B K.S
def Cf.lk (K : Cf) (s : Nat) : Nat := 4 + K.C + K.C * K.D + 2 * K.C + s * (2 + K.B) + 1

theorem Cf.of_right {s a c d g k : Int} (hr : rightB s a c d g k = true) : ∃ K : Cf, K.Ok ∧ s = (K.S : Int) ∧ a = K.a ∧ c = (K.C : Int) ∧ d = (K.D : Int) ∧ g = K.g ∧ k = K.k := by
  obtain ⟨C, D, S, B, rfl, rfl, rfl, hB, hB8, _, hD1, _, hS1, hC8, hD16, hS64⟩ := nat_cfg hr
  exact ⟨⟨S, a, C, D, g, k, B⟩, ⟨hr, hB, hB8, hC8, hD16, hS64, hS1, hD1⟩, rfl, rfl, rfl, rfl, rfl, rfl⟩

theorem Cf.Ok.lk_lt {K : Cf} (_ : K.Ok) {s : Nat} (hs : s < K.S) : K.lk s < K.N := by
  have h1 : (s + 1) * (2 + K.B) ≤ K.S * (2 + K.B) := Nat.mul_le_mul_right _ hs
  rw [Nat.succ_mul] at h1
  unfold Cf.lk Cf.N nW; omega
theorem Cf.Ok.N_b {K : Cf} (h : K.Ok) : 4 ≤ K.N ∧ K.N ≤ 796 := nW_b h.c8 h.d16 h.s64 h.b8
theorem Cf.lk_4 (K : Cf) (s : Nat) : 4 < K.lk s := by unfold Cf.lk; omega
theorem Cf.lk_inj (K : Cf) {s t : Nat} (h : K.lk s = K.lk t) : s = t := by
  unfold Cf.lk at h
  have : s * (2 + K.B) = t * (2 + K.B) := by omega
  exact Nat.eq_of_mul_eq_mul_right (by omega) this

/-- Some blocks alone have changed; there may be new ones. -/
structure Chg (L : List Nat) (w w' : World) : Prop where
  os : w'.os = w.os
  tape : w'.tape = w.tape
  output : w'.output = w.output
  size : w.heap.size ≤ w'.heap.size
  block : ∀ i, i < w.heap.size → i ∉ L → w'.heap[i]? = w.heap[i]?

theorem Chg.refl (L : List Nat) (w : World) : Chg L w w := ⟨rfl, rfl, rfl, Nat.le_refl _, fun _ _ _ => rfl⟩
theorem Chg.trans {L : List Nat} {a b c : World} (h : Chg L a b) (k : Chg L b c) : Chg L a c :=
  ⟨k.os.trans h.os, k.tape.trans h.tape, k.output.trans h.output, Nat.le_trans h.size k.size, fun i hi hn => (k.block i (Nat.lt_of_lt_of_le hi h.size) hn).trans (h.block i hi hn)⟩
/-- Blocks that are newer than the first world may be left out. -/
theorem Chg.mono {L L' : List Nat} {a b : World} (h : Chg L a b) (hs : ∀ i ∈ L, i ∈ L' ∨ a.heap.size ≤ i) : Chg L' a b :=
  ⟨h.os, h.tape, h.output, h.size, fun i hi hn => h.block i hi fun hm => by rcases hs i hm with h1 | h1 <;> first | exact hn h1 | omega⟩
theorem Chg.of_only {L : List Nat} {M G : Nat} {w w' : World} (h : Only M G w w') (hM : M ∈ L) (hG : G ∈ L) : Chg L w w' :=
  ⟨h.os, h.tape, h.output, h.size, fun i hi hn => h.block i hi (fun e => hn (e ▸ hM)) (fun e => hn (e ▸ hG))⟩
theorem Chg.of_below {L : List Nat} {w w' : World} (h : Below w.heap.size w w') : Chg L w w' := ⟨h.os, h.tape, h.output, h.size, fun i hi _ => h.block i hi⟩
theorem Chg.setCell {L : List Nat} {a w : World} (h : Chg L a w) {b o : Nat} (hb : b ∈ L ∨ a.heap.size ≤ b) (v : Value) : Chg L a (w.setCell ⟨b, o, none⟩ v) :=
  ⟨h.os, h.tape, h.output, by simpa [World.setCell] using h.size, fun i hi hn => (Below.heap_setCell _ _ _ _ (by show i ≠ b; intro e; subst e; rcases hb with h1 | h1 <;> first | exact hn h1 | omega)).trans (h.block i hi hn)⟩
theorem Chg.alloc {L : List Nat} {a w : World} (h : Chg L a w) (o : Obj) : Chg L a (w.alloc o) := h.trans (Chg.of_below (alloc_below w o))
theorem Chg.below {L : List Nat} {B : Nat} {w0 w w' : World} (h : Chg L w w') (h0 : Below B w0 w) (hL : ∀ i ∈ L, B ≤ i) (hB : B ≤ w0.heap.size) : Below B w0 w' :=
  h0.trans ⟨h.os, h.tape, h.output, h.size, fun i hi => h.block i (Nat.lt_of_lt_of_le hi (Nat.le_trans hB h0.size)) fun hm => by have := hL i hm; omega⟩
theorem Chg.then_below {L : List Nat} {a b c : World} (h : Chg L a b) (k : Below b.heap.size b c) : Chg L a c := h.trans (Chg.of_below k)
theorem Chg.at {L : List Nat} {w w' : World} (h : Chg L w w') {i : Nat} {o : Obj} (ho : w.heap[i]? = some o) (hn : i ∉ L) : w'.heap[i]? = some o := (h.block i (lt_of_block ho) hn).trans ho
theorem IsMem.chg {L : List Nat} {w w' : World} {M G : Nat} {s : MS} (h : IsMem w M G s) (k : Chg L w w') (h1 : M ∉ L) (h2 : G ∉ L) : IsMem w' M G s :=
  ⟨k.at h.head h1, k.at h.row h2, h.ne, h.fits⟩
theorem IsCfg.chg {L : List Nat} {w w' : World} {B : Nat} {s a c d g k : Int} (h : IsCfg w B s a c d g k) (x : Chg L w w') (h1 : B ∉ L) : IsCfg w' B s a c d g k := x.at h h1

theorem mem_set {w : World} {M G P i : Nat} {m : MS} (h : IsMem w M G m) (h1 : P ≠ M) (h2 : P ≠ G) (v : Value) : IsMem (w.setCell ⟨P, i, none⟩ v) M G m :=
  IsMem.chg (L := [P]) h ((Chg.refl [P] w).setCell (by simp) v) (by simp [Ne.symm h1]) (by simp [Ne.symm h2])
theorem new_obj (w : World) (o : Obj) : (w.alloc o).heap[w.heap.size]? = some o := (MapKept.heap_alloc w o).1

theorem set_self (X : List Nat) (i : Nat) : X.set i (X.getD i 0) = X := by
  apply List.ext_getElem?
  intro j
  rw [List.getElem?_set]
  split
  · rename_i h; subst h
    split
    · rename_i h; simp [h]
    · rename_i h; simp [h]
  · rfl
theorem getD_set (X : List Nat) (i v j : Nat) : (X.set i v).getD j 0 = if i = j ∧ i < X.length then v else X.getD j 0 := by
  simp only [List.getD_eq_getElem?_getD]
  rw [List.getElem?_set]
  by_cases h : i = j
  · subst h
    by_cases hi : i < X.length
    · simp [hi]
    · simp [hi]
  · simp [h]
theorem touched_X (m : MS) (kd : Int) (i : Nat) : (touched m kd i (m.X.getD i 0)).X = m.X := set_self m.X i

open Hh (WT okW whiteH wordOf Hr blackN usedK)
/-- Where a slot's header stands. -/
def Cf.hd (K : Cf) (s : Nat) : Nat := 4 + K.C + K.C * K.D + 2 * K.C + s * (2 + K.B)
theorem Cf.hd_lt (K : Cf) {s : Nat} (hs : s < K.S) : K.hd s < K.N := by
  have h1 : (s + 1) * (2 + K.B) ≤ K.S * (2 + K.B) := Nat.mul_le_mul_right _ hs
  rw [Nat.succ_mul] at h1
  unfold Cf.hd Cf.N nW; omega
theorem Cf.hd_4 (K : Cf) (s : Nat) : 4 ≤ K.hd s := by unfold Cf.hd; omega
theorem Cf.hd_inj (K : Cf) {s t : Nat} (h : K.hd s = K.hd t) : s = t := by
  unfold Cf.hd at h
  have : s * (2 + K.B) = t * (2 + K.B) := by omega
  exact Nat.eq_of_mul_eq_mul_right (by omega) this
theorem WT.chg {L : List Nat} {w w' : World} (h : WT w) (c : Chg L w w') (hn : 0 ∉ L) : WT w' := fun i hi => (World.cell?_of_block (w := w) (w' := w') (a := ⟨0, i, none⟩) (c.block 0 h.lt hn)).trans (h i hi)
theorem WT.mem {w : World} {M G : Nat} {m : MS} (h : WT w) (hm : IsMem w M G m) (hl : 1 ≤ m.X.length) : M ≠ 0 ∧ G ≠ 0 := by
  have h0 := h 0 (by omega)
  refine ⟨fun e => ?_, fun e => ?_⟩
  · subst e
    rw [hm.c0] at h0
    simp at h0
  · subst e
    rw [hm.word 0 (by omega)] at h0
    simp at h0
/-- Whether a word can be shaded in an epoch, and what it is shaded to. -/
def canS (W e : Nat) : Bool := okW W && whiteH ((W % 8 : Nat) : Int) ((W / 8 % 2 : Nat) : Int) e
def shN (W e : Nat) : Nat := W - 8 * (W / 8 % 2) - 16 * (W / 16 % 2) + 8 * blackN e + 16
def grayW (W : Nat) : Bool := okW W && decide (W / 16 % 2 = 1)
end Go.Proofs.YtcioomopgdhlmaaGreatDoor
/- What a step of a Shade does to the words. -/
namespace Go.Proofs.YtcioomopgdhlmaaGreatDoor
open Go.RowKit
open Mm (IsMem MS touched Only zeroMS)
open Hh (WT okW whiteH wordOf Hr blackN usedK)

/-- A memory of these words, with so many touches. -/
def MemX (w : World) (M G : Nat) (X : List Nat) (T : Int) : Prop := ∃ m, IsMem w M G m ∧ m.X = X ∧ m.t = T
theorem MemX.below {w w' : World} {M G : Nat} {X : List Nat} {T : Int} (h : MemX w M G X T) (b : Below w.heap.size w w') : MemX w' M G X T := by
  obtain ⟨m, h1, h2⟩ := h
  exact ⟨m, h1.below b, h2⟩
theorem MemX.chg {L : List Nat} {w w' : World} {M G : Nat} {X : List Nat} {T : Int} (h : MemX w M G X T) (b : Chg L w w') (h1 : M ∉ L) (h2 : G ∉ L) : MemX w' M G X T := by
  obtain ⟨m, h3, h4⟩ := h
  exact ⟨m, IsMem.chg h3 b h1 h2, h4⟩
theorem MemX.lt {w : World} {M G : Nat} {X : List Nat} {T : Int} (h : MemX w M G X T) : M < w.heap.size ∧ G < w.heap.size ∧ M ≠ G := by
  obtain ⟨m, h1, _⟩ := h
  exact ⟨h1.M_lt, h1.G_lt, h1.ne⟩
theorem MemX.fits {w : World} {M G : Nat} {X : List Nat} {T : Int} (h : MemX w M G X T) (i : Nat) : X.getD i 0 < 18446744073709551616 := by
  obtain ⟨m, h1, h2, _⟩ := h
  rw [← h2]
  exact h1.word_lt i
theorem touchesX {w : World} {M G : Nat} {X : List Nat} {T : Int} (h : MemX w M G X T) : Calls Tryz.prog 43 #[.pointer (some ⟨M, 0, none⟩)] w fun e w' => e = .returned (.int .i64 T) ∧ w = w' := by
  obtain ⟨m, hm, _, ht⟩ := h
  rw [← ht]
  exact Mm.touches_any hm
/-- What is known of the world within a law. -/
structure Ds (w wr : World) (K : Cf) (M G : Nat) (X : List Nat) (T : Int) : Prop where
  mem : MemX wr M G X T
  cfg : IsCfg wr w.heap.size K.S K.a K.C K.D K.g K.k
  bel : Below w.heap.size w wr
  wt : WT wr
  hM : w.heap.size + 1 ≤ M
  hG : w.heap.size + 1 ≤ G
theorem Ds.below {w wr w1 : World} {K : Cf} {M G : Nat} {X : List Nat} {T : Int} (h : Ds w wr K M G X T) (b : Below wr.heap.size wr w1) : Ds w w1 K M G X T :=
  ⟨h.mem.below b, h.cfg.below b, h.bel.trans (b.mono h.bel.size), h.wt.below b, h.hM, h.hG⟩
theorem Ds.drew {w wr : World} {K : Cf} {M G : Nat} {X : List Nat} {T : Int} (h : Ds w wr K M G X T) : Ds w wr.drew K M G X T := h.below (Below.refl _ _).drew
theorem Ds.chg {w wr w1 : World} {K : Cf} {M G P : Nat} {X X' : List Nat} {T T' : Int} (h : Ds w wr K M G X T) (b : Chg [P, M, G] wr w1) (hP : w.heap.size + 1 ≤ P) (hm : MemX w1 M G X' T') (hw : WT w1) : Ds w w1 K M G X' T' :=
  ⟨hm, h.cfg.chg b (by have := h.hM; have := h.hG; simp; omega), b.below h.bel (by have := h.hM; have := h.hG; simp; omega) (Nat.le_refl _), hw, h.hM, h.hG⟩
theorem Ds.lt {w wr : World} {K : Cf} {M G : Nat} {X : List Nat} {T : Int} (h : Ds w wr K M G X T) : w.heap.size + 1 ≤ wr.heap.size := h.cfg.lt
end Go.Proofs.YtcioomopgdhlmaaGreatDoor
/- Machines of package stack as they lie in the heap: no walk in sight. -/
namespace Go.Proofs.YtcioomopgdhlmaaGreatDoor
open Go.RowKit
open Mm (IsMem MS touched Only)

/-- The slot that a number names, or -1. -/
def nmd (S x : Nat) : Int := if S < x then -1 else (x : Int) - 1
/-- The slot that a top names, or -1. -/
def fst (S t : Nat) : Int := nmd S (t % 65536)
theorem nmd_b (S x : Nat) : -1 ≤ nmd S x ∧ nmd S x < (S : Int) ∨ nmd S x = -1 := by unfold nmd; split <;> omega
theorem nmd_cases (S x : Nat) : nmd S x = -1 ∨ ∃ s : Nat, s < S ∧ nmd S x = (s : Int) ∧ x = s + 1 := by
  unfold nmd
  by_cases h : S < x
  · left; rw [if_pos h]
  · rw [if_neg h]
    cases x with
    | zero => left; rfl
    | succ s => right; exact ⟨s, by omega, by omega, rfl⟩
theorem nmd_of {S s : Nat} (h : s < S) : nmd S (s + 1) = (s : Int) := by unfold nmd; rw [if_neg (by omega)]; omega
theorem nmd_zero (S : Nat) : nmd S 0 = -1 := by unfold nmd; rw [if_neg (by omega)]; rfl

end Go.Proofs.YtcioomopgdhlmaaGreatDoor
/- Contracts of package stack's named, first, NewPop and NewPush. -/
namespace Go.Proofs.YtcioomopgdhlmaaGreatDoor
open Go.RowKit
open Mm (IsMem MS touched Only)

end Go.Proofs.YtcioomopgdhlmaaGreatDoor
/- What the machines of stack and arena work on: words and touches; a block of cells beside them. -/
namespace Go.Proofs.YtcioomopgdhlmaaGreatDoor
open Go.RowKit
open Mm (IsMem MS touched Only)
open Hh (WT)

/-! A memory's methods, told by its words. -/
theorem loadX {w : World} {M G : Nat} {X : List Nat} {T : Int} (h : MemX w M G X T) {i : Nat} (hi : i < X.length) (ht : 0 ≤ T ∧ T < 4611686018427387904) {v : Nat} (hv : X.getD i 0 = v) :
    Calls Tryz.prog 63 #[.pointer (some ⟨M, 0, none⟩), .int .i64 (i : Nat)] w fun e w' => e = .returned (.int .u64 (v : Nat)) ∧ MemX w' M G X (T + 1) ∧ Only M G w w' := by
  obtain ⟨m, hm, rfl, rfl⟩ := h
  have c := Mm.load_in hm i hi ht
  rw [hv] at c
  exact c.mono fun e w' ⟨h1, h2, h3⟩ => ⟨h1, ⟨_, h2, by rw [← hv]; exact touched_X m 1 i, rfl⟩, h3⟩
theorem storeX {w : World} {M G : Nat} {X : List Nat} {T : Int} (h : MemX w M G X T) {i v : Nat} (hi : i < X.length) (hv : v < 18446744073709551616) (ht : 0 ≤ T ∧ T < 4611686018427387904) :
    Calls Tryz.prog 92 #[.pointer (some ⟨M, 0, none⟩), .int .i64 (i : Nat), .int .u64 (v : Nat)] w fun e w' => e = .returned (.bool true) ∧ MemX w' M G (X.set i v) (T + 1) ∧ Only M G w w' := by
  obtain ⟨m, hm, rfl, rfl⟩ := h
  exact (Mm.store_in hm i v hi hv ht).mono fun e w' ⟨h1, h2, h3⟩ => ⟨h1, ⟨_, h2, rfl, rfl⟩, h3⟩
theorem swapX_yes {w : World} {M G : Nat} {X : List Nat} {T : Int} (h : MemX w M G X T) {i o v : Nat} (hi : i < X.length) (hv : v < 18446744073709551616) (ho : X.getD i 0 = o) (ht : 0 ≤ T ∧ T < 4611686018427387904) :
    Calls Tryz.prog 104 #[.pointer (some ⟨M, 0, none⟩), .int .i64 (i : Nat), .int .u64 (o : Nat), .int .u64 (v : Nat)] w fun e w' => e = .returned (.bool true) ∧ MemX w' M G (X.set i v) (T + 1) ∧ Only M G w w' := by
  obtain ⟨m, hm, rfl, rfl⟩ := h
  exact (Mm.swap_yes hm i o v hi hv ho ht).mono fun e w' ⟨h1, h2, h3⟩ => ⟨h1, ⟨_, h2, rfl, rfl⟩, h3⟩
theorem swapX_no {w : World} {M G : Nat} {X : List Nat} {T : Int} (h : MemX w M G X T) {i o v : Nat} (hi : i < X.length) (ho : X.getD i 0 ≠ o) (ht : 0 ≤ T ∧ T < 4611686018427387904) :
    Calls Tryz.prog 104 #[.pointer (some ⟨M, 0, none⟩), .int .i64 (i : Nat), .int .u64 (o : Nat), .int .u64 (v : Nat)] w fun e w' => e = .returned (.bool false) ∧ MemX w' M G X (T + 1) ∧ Only M G w w' := by
  obtain ⟨m, hm, rfl, rfl⟩ := h
  exact (Mm.swap_no hm i o v hi ho ht).mono fun e w' ⟨h1, h2, h3⟩ => ⟨h1, ⟨_, h2, touched_X m 3 i, rfl⟩, h3⟩

/-- What is known of the world within a step of a machine that lies in block P. -/
structure InA (w wr : World) (M G N : Nat) (X : List Nat) (T : Int) (P : Nat) (c : Array Value) (t : TypeId) : Prop where
  mem : MemX wr M G X T
  wt : WT wr
  len : X.length = N
  tb : 0 ≤ T ∧ T < 4611686018427387904
  blk : wr.heap[P]? = some (.cells c t (0, 0))
  ch : Chg [P, M, G] w wr
  hP : P ≠ M ∧ P ≠ G
  pos : 0 < P ∧ 0 < M ∧ 0 < G
theorem InA.below {w wr w' : World} {M G N P : Nat} {X : List Nat} {T : Int} {c : Array Value} {t : TypeId} (h : InA w wr M G N X T P c t) (b : Below wr.heap.size wr w') : InA w w' M G N X T P c t :=
  ⟨h.mem.below b, h.wt.below b, h.len, h.tb, (b.block P (lt_of_block h.blk)).trans h.blk, h.ch.then_below b, h.hP, h.pos⟩
theorem InA.drew {w wr : World} {M G N P : Nat} {X : List Nat} {T : Int} {c : Array Value} {t : TypeId} (h : InA w wr M G N X T P c t) : InA w wr.drew M G N X T P c t := h.below (Below.refl _ _).drew
theorem InA.only {w wr w' : World} {M G N P : Nat} {X X' : List Nat} {T T' : Int} {c : Array Value} {t : TypeId} (h : InA w wr M G N X T P c t) (hm : MemX w' M G X' T') (o : Only M G wr w') (hl : X'.length = N) (ht : 0 ≤ T' ∧ T' < 4611686018427387904) : InA w w' M G N X' T' P c t := by
  have c : Chg [M, G] wr w' := Chg.of_only o (by simp) (by simp)
  have hp := h.pos
  exact ⟨hm, WT.chg h.wt c (by simp; omega), hl, ht, (o.block P (lt_of_block h.blk) h.hP.1 h.hP.2).trans h.blk, h.ch.trans (Chg.of_only o (by simp) (by simp)), h.hP, h.pos⟩
theorem InA.set {w wr : World} {M G N P : Nat} {X : List Nat} {T : Int} {c : Array Value} {t : TypeId} (h : InA w wr M G N X T P c t) (i : Nat) (v : Value) : InA w (wr.setCell ⟨P, i, none⟩ v) M G N X T P (c.setIfInBounds i v) t := by
  have ch : Chg [P] wr (wr.setCell ⟨P, i, none⟩ v) := (Chg.refl [P] wr).setCell (by simp) v
  have hp := h.pos
  have hP := h.hP
  exact ⟨h.mem.chg ch (by simp; omega) (by simp; omega), WT.chg h.wt ch (by simp; omega), h.len, h.tb, Mm.heap_setCell_at h.blk v, h.ch.trans ((Chg.refl [P, M, G] wr).setCell (by simp) v), h.hP, h.pos⟩
theorem InA.cell {w wr : World} {M G N P : Nat} {X : List Nat} {T : Int} {c : Array Value} {t : TypeId} (h : InA w wr M G N X T P c t) {i : Nat} {v : Value} (hi : c[i]? = some v) : wr.cell? ⟨P, i, none⟩ = some v := by
  unfold World.cell?
  simp only [h.blk]
  exact hi
theorem InA.free {w wr : World} {M G N P : Nat} {X : List Nat} {T : Int} {c : Array Value} {t : TypeId} (h : InA w wr M G N X T P c t) (i : Nat) : wr.frozen? ⟨P, i, none⟩ = false := by
  have h' := h.blk
  simp [World.frozen?, h']
theorem InA.restart {w wr : World} {M G N P : Nat} {X : List Nat} {T : Int} {c : Array Value} {t : TypeId} (h : InA w wr M G N X T P c t) : InA wr wr M G N X T P c t :=
  ⟨h.mem, h.wt, h.len, h.tb, h.blk, Chg.refl _ _, h.hP, h.pos⟩
theorem InA.join {w wr w' : World} {M G N P : Nat} {X X' : List Nat} {T T' : Int} {c c' : Array Value} {t : TypeId} (h : InA w wr M G N X T P c t) (k : InA wr w' M G N X' T' P c' t) : InA w w' M G N X' T' P c' t :=
  ⟨k.mem, k.wt, k.len, k.tb, k.blk, h.ch.trans k.ch, k.hP, k.pos⟩

/-- A cell of an array that is set to what it has. -/
theorem set_get {c : Array Value} {i : Nat} {v : Value} (h : c[i]? = some v) : c.setIfInBounds i v = c := by
  apply Array.ext_getElem?
  intro j
  rw [Array.getElem?_setIfInBounds]
  split
  · rename_i e; subst e
    rw [if_pos (Array.getElem?_eq_some_iff.1 h).1, h]
  · rfl
theorem get_set_ne {c : Array Value} {i j : Nat} {v : Value} (h : i ≠ j) : (c.setIfInBounds i v)[j]? = c[j]? := by rw [Array.getElem?_setIfInBounds, if_neg h]
theorem get_set {c : Array Value} {i : Nat} {v : Value} (h : i < c.size) : (c.setIfInBounds i v)[i]? = some v := by rw [Array.getElem?_setIfInBounds, if_pos rfl, if_pos h]
theorem lt_get {c : Array Value} {i : Nat} {v : Value} (h : c[i]? = some v) : i < c.size := (Array.getElem?_eq_some_iff.1 h).1
/-- Cells outside a part stay. -/
structure Same (c c' : Array Value) (a b : Nat) : Prop where
  size : c'.size = c.size
  out : ∀ i, (i < a ∨ b < i) → c'[i]? = c[i]?
theorem Same.refl (c : Array Value) (a b : Nat) : Same c c a b := ⟨rfl, fun _ _ => rfl⟩
theorem Same.trans {c d e : Array Value} {a b : Nat} (h : Same c d a b) (k : Same d e a b) : Same c e a b := ⟨k.size.trans h.size, fun i hi => (k.out i hi).trans (h.out i hi)⟩
theorem Same.set (c : Array Value) {a b i : Nat} (v : Value) (h : a ≤ i ∧ i ≤ b) : Same c (c.setIfInBounds i v) a b := ⟨by simp, fun j hj => get_set_ne (by omega)⟩

/-- Where a word of a slot's body stands. -/
def Cf.bd (K : Cf) (s i : Nat) : Nat := K.hd s + 2 + i
theorem Cf.bd_lt (K : Cf) {s i : Nat} (hs : s < K.S) (hi : i < K.B) : K.bd s i < K.N := by
  have h1 : (s + 1) * (2 + K.B) ≤ K.S * (2 + K.B) := Nat.mul_le_mul_right _ hs
  rw [Nat.succ_mul] at h1
  unfold Cf.bd Cf.hd Cf.N nW; omega
theorem Cf.bd_4 (K : Cf) (s i : Nat) : 4 < K.bd s i := by unfold Cf.bd Cf.hd; omega
theorem header_at {K : Cf} (hK : K.Ok) {s : Nat} (hs : s < K.S) {j : Int} (hj : (s : Int) = j) (w : World) :
    Calls Tryz.prog 19 #[.agg K.cs, .int .i64 j] w fun e w' => e = .returned (.int .i64 (K.hd s : Nat)) ∧ Below w.heap.size w w' := by
  subst hj
  have h := header_yes (s := K.S) (a := K.a) (c := K.C) (d := K.D) (g := K.g) (k := K.k) s hK.r (be_iff.2 (by omega)) w
  have e : fsI K.C K.D + (s : Int) * ssI K.a = ((K.hd s : Nat) : Int) := by
    unfold fsI ssI Cf.hd
    rw [hK.b]
    push_cast
    omega
  rw [e] at h
  exact h
end Go.Proofs.YtcioomopgdhlmaaGreatDoor
