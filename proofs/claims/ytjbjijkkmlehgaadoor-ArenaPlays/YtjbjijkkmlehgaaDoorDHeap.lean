/- Machines of package shade as they lie in the heap, and which blocks a step may turn: no walk in sight. -/
import Derived.Test.YtjbjijkkmlehgaaDoorPMem
import Derived.Test.YtjbjijkkmlehgaaDoorPSizes
import Derived.Test.YtjbjijkkmlehgaaDoorMTouch
import Derived.Test.YtjbjijkkmlehgaaDoorTBase
import Derived.Deep.RegionHeld
import Derived.Test.YtjbjijkkmlehgaaDoorHhHShade
namespace Go.Proofs.YtjbjijkkmlehgaaDoor
open Go.RowKit
open Mm (IsMem MS touched Only)

/-- A config that is right, its numbers as natural ones. -/
structure Cf where
  S : Nat
  a : Int
  C : Nat
  D : Nat
  g : Int
  k : Int
  B : Nat

structure Cf.Ok (K : Cf) : Prop where
  r : rightB K.S K.a K.C K.D K.g K.k = true
  b : bsI K.a = (K.B : Int)
  b8 : K.B ≤ 8
  c8 : K.C ≤ 8
  d16 : K.D ≤ 16
  s64 : K.S ≤ 64
  s1 : 1 ≤ K.S
  d1 : 1 ≤ K.D

abbrev Cf.cs (K : Cf) : Array Value := #[.int .i64 (K.S : Nat), .int .i64 K.a, .int .i64 (K.C : Nat), .int .i64 (K.D : Nat), .int .i64 K.g, .int .i64 K.k]
def Cf.N (K : Cf) : Nat := nW K.C K.D K.B K.S
def Cf.lk (K : Cf) (s : Nat) : Nat := 4 + K.C + K.C * K.D + 2 * K.C + s * (2 + K.B) + 1

theorem Cf.of_right {s a c d g k : Int} (hr : rightB s a c d g k = true) : ∃ K : Cf, K.Ok ∧ s = (K.S : Int) ∧ a = K.a ∧ c = (K.C : Int) ∧ d = (K.D : Int) ∧ g = K.g ∧ k = K.k := by
  obtain ⟨C, D, S, B, rfl, rfl, rfl, hB, hB8, _, hD1, _, hS1, hC8, hD16, hS64⟩ := nat_cfg hr
  exact ⟨⟨S, a, C, D, g, k, B⟩, ⟨hr, hB, hB8, hC8, hD16, hS64, hS1, hD1⟩, rfl, rfl, rfl, rfl, rfl, rfl⟩

theorem Cf.Ok.lk_lt {K : Cf} (_ : K.Ok) {s : Nat} (hs : s < K.S) : K.lk s < K.N := by
  have h1 : (s + 1) * (2 + K.B) ≤ K.S * (2 + K.B) := Nat.mul_le_mul_right _ hs
  rw [Nat.succ_mul] at h1
  unfold Cf.lk Cf.N nW; omega
theorem Cf.Ok.N_b {K : Cf} (h : K.Ok) : 4 ≤ K.N ∧ K.N ≤ 796 := nW_b h.c8 h.d16 h.s64 h.b8
theorem Cf.lk_4 (K : Cf) (s : Nat) : 4 < K.lk s := by unfold Cf.lk; omega
theorem Cf.lk_inj (K : Cf) {s t : Nat} (h : K.lk s = K.lk t) : s = t := by
  unfold Cf.lk at h
  have : s * (2 + K.B) = t * (2 + K.B) := by omega
  exact Nat.eq_of_mul_eq_mul_right (by omega) this

/-- Some blocks alone have changed; there may be new ones. -/
structure Chg (L : List Nat) (w w' : World) : Prop where
  os : w'.os = w.os
  tape : w'.tape = w.tape
  output : w'.output = w.output
  size : w.heap.size ≤ w'.heap.size
  block : ∀ i, i < w.heap.size → i ∉ L → w'.heap[i]? = w.heap[i]?

theorem Chg.refl (L : List Nat) (w : World) : Chg L w w := ⟨rfl, rfl, rfl, Nat.le_refl _, fun _ _ _ => rfl⟩
theorem Chg.trans {L : List Nat} {a b c : World} (h : Chg L a b) (k : Chg L b c) : Chg L a c :=
  ⟨k.os.trans h.os, k.tape.trans h.tape, k.output.trans h.output, Nat.le_trans h.size k.size, fun i hi hn => (k.block i (Nat.lt_of_lt_of_le hi h.size) hn).trans (h.block i hi hn)⟩
/-- Blocks that are newer than the first world may be left out. -/
theorem Chg.mono {L L' : List Nat} {a b : World} (h : Chg L a b) (hs : ∀ i ∈ L, i ∈ L' ∨ a.heap.size ≤ i) : Chg L' a b :=
  ⟨h.os, h.tape, h.output, h.size, fun i hi hn => h.block i hi fun hm => by rcases hs i hm with h1 | h1 <;> first | exact hn h1 | omega⟩
theorem Chg.of_only {L : List Nat} {M G : Nat} {w w' : World} (h : Only M G w w') (hM : M ∈ L) (hG : G ∈ L) : Chg L w w' :=
  ⟨h.os, h.tape, h.output, h.size, fun i hi hn => h.block i hi (fun e => hn (e ▸ hM)) (fun e => hn (e ▸ hG))⟩
theorem Chg.of_below {L : List Nat} {w w' : World} (h : Below w.heap.size w w') : Chg L w w' := ⟨h.os, h.tape, h.output, h.size, fun i hi _ => h.block i hi⟩
theorem Chg.setCell {L : List Nat} {a w : World} (h : Chg L a w) {b o : Nat} (hb : b ∈ L ∨ a.heap.size ≤ b) (v : Value) : Chg L a (w.setCell ⟨b, o, none⟩ v) :=
  ⟨h.os, h.tape, h.output, by simpa [World.setCell] using h.size, fun i hi hn => (Below.heap_setCell _ _ _ _ (by show i ≠ b; intro e; subst e; rcases hb with h1 | h1 <;> first | exact hn h1 | omega)).trans (h.block i hi hn)⟩
theorem Chg.alloc {L : List Nat} {a w : World} (h : Chg L a w) (o : Obj) : Chg L a (w.alloc o) := h.trans (Chg.of_below (alloc_below w o))
theorem Chg.below {L : List Nat} {B : Nat} {w0 w w' : World} (h : Chg L w w') (h0 : Below B w0 w) (hL : ∀ i ∈ L, B ≤ i) (hB : B ≤ w0.heap.size) : Below B w0 w' :=
  h0.trans ⟨h.os, h.tape, h.output, h.size, fun i hi => h.block i (Nat.lt_of_lt_of_le hi (Nat.le_trans hB h0.size)) fun hm => by have := hL i hm; omega⟩
theorem Chg.then_below {L : List Nat} {a b c : World} (h : Chg L a b) (k : Below b.heap.size b c) : Chg L a c := h.trans (Chg.of_below k)
theorem Chg.at {L : List Nat} {w w' : World} (h : Chg L w w') {i : Nat} {o : Obj} (ho : w.heap[i]? = some o) (hn : i ∉ L) : w'.heap[i]? = some o := (h.block i (lt_of_block ho) hn).trans ho
theorem IsMem.chg {L : List Nat} {w w' : World} {M G : Nat} {s : MS} (h : IsMem w M G s) (k : Chg L w w') (h1 : M ∉ L) (h2 : G ∉ L) : IsMem w' M G s :=
  ⟨k.at h.head h1, k.at h.row h2, h.ne, h.fits⟩
theorem IsCfg.chg {L : List Nat} {w w' : World} {B : Nat} {s a c d g k : Int} (h : IsCfg w B s a c d g k) (x : Chg L w w') (h1 : B ∉ L) : IsCfg w' B s a c d g k := x.at h h1

theorem mem_set {w : World} {M G P i : Nat} {m : MS} (h : IsMem w M G m) (h1 : P ≠ M) (h2 : P ≠ G) (v : Value) : IsMem (w.setCell ⟨P, i, none⟩ v) M G m :=
  IsMem.chg (L := [P]) h ((Chg.refl [P] w).setCell (by simp) v) (by simp [Ne.symm h1]) (by simp [Ne.symm h2])
theorem new_obj (w : World) (o : Obj) : (w.alloc o).heap[w.heap.size]? = some o := (MapKept.heap_alloc w o).1

theorem set_self (X : List Nat) (i : Nat) : X.set i (X.getD i 0) = X := by
  apply List.ext_getElem?
  intro j
  rw [List.getElem?_set]
  split
  · rename_i h; subst h
    split
    · rename_i h; simp [h]
    · rename_i h; simp [h]
  · rfl
theorem getD_set (X : List Nat) (i v j : Nat) : (X.set i v).getD j 0 = if i = j ∧ i < X.length then v else X.getD j 0 := by
  simp only [List.getD_eq_getElem?_getD]
  rw [List.getElem?_set]
  by_cases h : i = j
  · subst h
    by_cases hi : i < X.length
    · simp [hi]
    · simp [hi]
  · simp [h]
theorem touched_X (m : MS) (kd : Int) (i : Nat) : (touched m kd i (m.X.getD i 0)).X = m.X := set_self m.X i

open Hh (WT okW whiteH wordOf Hr blackN usedK)
/-- Where a slot's header stands. -/
def Cf.hd (K : Cf) (s : Nat) : Nat := 4 + K.C + K.C * K.D + 2 * K.C + s * (2 + K.B)
theorem Cf.hd_lt (K : Cf) {s : Nat} (hs : s < K.S) : K.hd s < K.N := by
  have h1 : (s + 1) * (2 + K.B) ≤ K.S * (2 + K.B) := Nat.mul_le_mul_right _ hs
  rw [Nat.succ_mul] at h1
  unfold Cf.hd Cf.N nW; omega
theorem Cf.hd_4 (K : Cf) (s : Nat) : 4 ≤ K.hd s := by unfold Cf.hd; omega
theorem Cf.hd_inj (K : Cf) {s t : Nat} (h : K.hd s = K.hd t) : s = t := by
  unfold Cf.hd at h
  have : s * (2 + K.B) = t * (2 + K.B) := by omega
  exact Nat.eq_of_mul_eq_mul_right (by omega) this
theorem WT.chg {L : List Nat} {w w' : World} (h : WT w) (c : Chg L w w') (hn : 0 ∉ L) : WT w' := fun i hi => (World.cell?_of_block (w := w) (w' := w') (a := ⟨0, i, none⟩) (c.block 0 h.lt hn)).trans (h i hi)
theorem WT.mem {w : World} {M G : Nat} {m : MS} (h : WT w) (hm : IsMem w M G m) (hl : 1 ≤ m.X.length) : M ≠ 0 ∧ G ≠ 0 := by
  have h0 := h 0 (by omega)
  refine ⟨fun e => ?_, fun e => ?_⟩
  · subst e
    rw [hm.c0] at h0
    simp at h0
  · subst e
    rw [hm.word 0 (by omega)] at h0
    simp at h0
/-- Whether a word can be shaded in an epoch, and what it is shaded to. -/
def canS (W e : Nat) : Bool := okW W && whiteH ((W % 8 : Nat) : Int) ((W / 8 % 2 : Nat) : Int) e
def shN (W e : Nat) : Nat := W - 8 * (W / 8 % 2) - 16 * (W / 16 % 2) + 8 * blackN e + 16
def grayW (W : Nat) : Bool := okW W && decide (W / 16 % 2 = 1)
end Go.Proofs.YtjbjijkkmlehgaaDoor
