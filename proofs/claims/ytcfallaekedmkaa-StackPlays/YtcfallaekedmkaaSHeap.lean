/- Machines of package stack as they lie in the heap, and which blocks a step may turn: no walk in sight. -/
import Derived.Test.YtcfallaekedmkaaPMem
import Derived.Test.YtcfallaekedmkaaPSizes
import Derived.Test.YtcfallaekedmkaaMTouch
import Derived.Test.YtcfallaekedmkaaTBase
import Derived.Deep.RegionHeld
namespace Go.Proofs.Ytcfallaekedmkaa
open Go.RowKit
open Mm (IsMem MS touched Only)

/-- A config that is right, its numbers as natural ones. -/
structure Cf where
  S : Nat
  a : Int
  C : Nat
  D : Nat
  g : Int
  k : Int
  B : Nat

structure Cf.Ok (K : Cf) : Prop where
  r : rightB K.S K.a K.C K.D K.g K.k = true
  b : bsI K.a = (K.B : Int)
  b8 : K.B ≤ 8
  c8 : K.C ≤ 8
  d16 : K.D ≤ 16
  s64 : K.S ≤ 64
  s1 : 1 ≤ K.S
  d1 : 1 ≤ K.D

abbrev Cf.cs (K : Cf) : Array Value := #[.int .i64 (K.S : Nat), .int .i64 K.a, .int .i64 (K.C : Nat), .int .i64 (K.D : Nat), .int .i64 K.g, .int .i64 K.k]
def Cf.N (K : Cf) : Nat := nW K.C K.D K.B K.S
/-- Where a slot's link stands. -/
def Cf.lk (K : Cf) (s : Nat) : Nat := 4 + K.C + K.C * K.D + 2 * K.C + s * (2 + K.B) + 1

theorem Cf.of_right {s a c d g k : Int} (hr : rightB s a c d g k = true) : ∃ K : Cf, K.Ok ∧ s = (K.S : Int) ∧ a = K.a ∧ c = (K.C : Int) ∧ d = (K.D : Int) ∧ g = K.g ∧ k = K.k := by
  obtain ⟨C, D, S, B, rfl, rfl, rfl, hB, hB8, _, hD1, _, hS1, hC8, hD16, hS64⟩ := nat_cfg hr
  exact ⟨⟨S, a, C, D, g, k, B⟩, ⟨hr, hB, hB8, hC8, hD16, hS64, hS1, hD1⟩, rfl, rfl, rfl, rfl, rfl, rfl⟩

theorem Cf.Ok.lk_lt {K : Cf} (_ : K.Ok) {s : Nat} (hs : s < K.S) : K.lk s < K.N := by
  have h1 : (s + 1) * (2 + K.B) ≤ K.S * (2 + K.B) := Nat.mul_le_mul_right _ hs
  rw [Nat.succ_mul] at h1
  unfold Cf.lk Cf.N nW; omega
theorem Cf.Ok.N_b {K : Cf} (h : K.Ok) : 4 ≤ K.N ∧ K.N ≤ 796 := nW_b h.c8 h.d16 h.s64 h.b8
theorem Cf.lk_4 (K : Cf) (s : Nat) : 4 < K.lk s := by unfold Cf.lk; omega
theorem Cf.lk_inj (K : Cf) {s t : Nat} (h : K.lk s = K.lk t) : s = t := by
  unfold Cf.lk at h
  have : s * (2 + K.B) = t * (2 + K.B) := by omega
  exact Nat.eq_of_mul_eq_mul_right (by omega) this

/-- Some blocks alone have changed; there may be new ones. -/
structure Chg (L : List Nat) (w w' : World) : Prop where
  os : w'.os = w.os
  tape : w'.tape = w.tape
  output : w'.output = w.output
  size : w.heap.size ≤ w'.heap.size
  block : ∀ i, i < w.heap.size → i ∉ L → w'.heap[i]? = w.heap[i]?

theorem Chg.refl (L : List Nat) (w : World) : Chg L w w := ⟨rfl, rfl, rfl, Nat.le_refl _, fun _ _ _ => rfl⟩
theorem Chg.trans {L : List Nat} {a b c : World} (h : Chg L a b) (k : Chg L b c) : Chg L a c :=
  ⟨k.os.trans h.os, k.tape.trans h.tape, k.output.trans h.output, Nat.le_trans h.size k.size, fun i hi hn => (k.block i (Nat.lt_of_lt_of_le hi h.size) hn).trans (h.block i hi hn)⟩
/-- Blocks that are newer than the first world may be left out. -/
theorem Chg.mono {L L' : List Nat} {a b : World} (h : Chg L a b) (hs : ∀ i ∈ L, i ∈ L' ∨ a.heap.size ≤ i) : Chg L' a b :=
  ⟨h.os, h.tape, h.output, h.size, fun i hi hn => h.block i hi fun hm => by rcases hs i hm with h1 | h1 <;> first | exact hn h1 | omega⟩
theorem Chg.of_only {L : List Nat} {M G : Nat} {w w' : World} (h : Only M G w w') (hM : M ∈ L) (hG : G ∈ L) : Chg L w w' :=
  ⟨h.os, h.tape, h.output, h.size, fun i hi hn => h.block i hi (fun e => hn (e ▸ hM)) (fun e => hn (e ▸ hG))⟩
theorem Chg.of_below {L : List Nat} {w w' : World} (h : Below w.heap.size w w') : Chg L w w' := ⟨h.os, h.tape, h.output, h.size, fun i hi _ => h.block i hi⟩
theorem Chg.setCell {L : List Nat} {a w : World} (h : Chg L a w) {b o : Nat} (hb : b ∈ L ∨ a.heap.size ≤ b) (v : Value) : Chg L a (w.setCell ⟨b, o, none⟩ v) :=
  ⟨h.os, h.tape, h.output, by simpa [World.setCell] using h.size, fun i hi hn => (Below.heap_setCell _ _ _ _ (by show i ≠ b; intro e; subst e; rcases hb with h1 | h1 <;> first | exact hn h1 | omega)).trans (h.block i hi hn)⟩
theorem Chg.alloc {L : List Nat} {a w : World} (h : Chg L a w) (o : Obj) : Chg L a (w.alloc o) := h.trans (Chg.of_below (alloc_below w o))
theorem Chg.below {L : List Nat} {B : Nat} {w0 w w' : World} (h : Chg L w w') (h0 : Below B w0 w) (hL : ∀ i ∈ L, B ≤ i) (hB : B ≤ w0.heap.size) : Below B w0 w' :=
  h0.trans ⟨h.os, h.tape, h.output, h.size, fun i hi => h.block i (Nat.lt_of_lt_of_le hi (Nat.le_trans hB h0.size)) fun hm => by have := hL i hm; omega⟩
theorem Chg.then_below {L : List Nat} {a b c : World} (h : Chg L a b) (k : Below b.heap.size b c) : Chg L a c := h.trans (Chg.of_below k)
theorem Chg.at {L : List Nat} {w w' : World} (h : Chg L w w') {i : Nat} {o : Obj} (ho : w.heap[i]? = some o) (hn : i ∉ L) : w'.heap[i]? = some o := (h.block i (lt_of_block ho) hn).trans ho
theorem IsMem.chg {L : List Nat} {w w' : World} {M G : Nat} {s : MS} (h : IsMem w M G s) (k : Chg L w w') (h1 : M ∉ L) (h2 : G ∉ L) : IsMem w' M G s :=
  ⟨k.at h.head h1, k.at h.row h2, h.ne, h.fits⟩
theorem IsCfg.chg {L : List Nat} {w w' : World} {B : Nat} {s a c d g k : Int} (h : IsCfg w B s a c d g k) (x : Chg L w w') (h1 : B ∉ L) : IsCfg w' B s a c d g k := x.at h h1

/-- A Pop. -/
def IsPop (w : World) (P : Nat) (s a c d g k sl : Int) (em : Bool) (pc : Int) (tp : Nat) (nx : Int) : Prop :=
  w.heap[P]? = some (.cells #[.int .i64 sl, .bool em, .int .i64 s, .int .i64 a, .int .i64 c, .int .i64 d, .int .i64 g, .int .i64 k, .int .i64 pc, .int .u64 (tp : Nat), .int .i64 nx] 50 (0, 0))
/-- A Push. -/
def IsPush (w : World) (P : Nat) (s a c d g k sl pc : Int) (tp : Nat) : Prop :=
  w.heap[P]? = some (.cells #[.int .i64 s, .int .i64 a, .int .i64 c, .int .i64 d, .int .i64 g, .int .i64 k, .int .i64 sl, .int .i64 pc, .int .u64 (tp : Nat)] 75 (0, 0))

theorem IsPop.cells {w : World} {P : Nat} {s a c d g k sl : Int} {em : Bool} {pc : Int} {tp : Nat} {nx : Int} (h : IsPop w P s a c d g k sl em pc tp nx) :
    w.cell? ⟨P, 0, none⟩ = some (.int .i64 sl) ∧ w.cell? ⟨P, 1, none⟩ = some (.bool em) ∧ w.cell? ⟨P, 2, none⟩ = some (.int .i64 s) ∧ w.cell? ⟨P, 3, none⟩ = some (.int .i64 a) ∧ w.cell? ⟨P, 4, none⟩ = some (.int .i64 c) ∧ w.cell? ⟨P, 5, none⟩ = some (.int .i64 d) ∧ w.cell? ⟨P, 6, none⟩ = some (.int .i64 g) ∧ w.cell? ⟨P, 7, none⟩ = some (.int .i64 k) ∧ w.cell? ⟨P, 8, none⟩ = some (.int .i64 pc) ∧ w.cell? ⟨P, 9, none⟩ = some (.int .u64 (tp : Nat)) ∧ w.cell? ⟨P, 10, none⟩ = some (.int .i64 nx) := by
  have h' : w.heap[P]? = _ := h
  simp [World.cell?, h']
theorem IsPop.free {w : World} {P : Nat} {s a c d g k sl : Int} {em : Bool} {pc : Int} {tp : Nat} {nx : Int} (h : IsPop w P s a c d g k sl em pc tp nx) (i : Nat) : w.frozen? ⟨P, i, none⟩ = false := by
  have h' : w.heap[P]? = _ := h
  simp [World.frozen?, h']
theorem IsPop.lt {w : World} {P : Nat} {s a c d g k sl : Int} {em : Bool} {pc : Int} {tp : Nat} {nx : Int} (h : IsPop w P s a c d g k sl em pc tp nx) : P < w.heap.size := lt_of_block h
theorem IsPop.chg {L : List Nat} {w w' : World} {P : Nat} {s a c d g k sl : Int} {em : Bool} {pc : Int} {tp : Nat} {nx : Int} (h : IsPop w P s a c d g k sl em pc tp nx) (x : Chg L w w') (hn : P ∉ L) : IsPop w' P s a c d g k sl em pc tp nx := x.at h hn
theorem IsPop.below {w w' : World} {P : Nat} {s a c d g k sl : Int} {em : Bool} {pc : Int} {tp : Nat} {nx : Int} (h : IsPop w P s a c d g k sl em pc tp nx) (x : Below w.heap.size w w') : IsPop w' P s a c d g k sl em pc tp nx := h.chg (L := []) (Chg.of_below x) (by simp)

theorem IsPush.cells {w : World} {P : Nat} {s a c d g k sl pc : Int} {tp : Nat} (h : IsPush w P s a c d g k sl pc tp) :
    w.cell? ⟨P, 0, none⟩ = some (.int .i64 s) ∧ w.cell? ⟨P, 1, none⟩ = some (.int .i64 a) ∧ w.cell? ⟨P, 2, none⟩ = some (.int .i64 c) ∧ w.cell? ⟨P, 3, none⟩ = some (.int .i64 d) ∧ w.cell? ⟨P, 4, none⟩ = some (.int .i64 g) ∧ w.cell? ⟨P, 5, none⟩ = some (.int .i64 k) ∧ w.cell? ⟨P, 6, none⟩ = some (.int .i64 sl) ∧ w.cell? ⟨P, 7, none⟩ = some (.int .i64 pc) ∧ w.cell? ⟨P, 8, none⟩ = some (.int .u64 (tp : Nat)) := by
  have h' : w.heap[P]? = _ := h
  simp [World.cell?, h']
theorem IsPush.free {w : World} {P : Nat} {s a c d g k sl pc : Int} {tp : Nat} (h : IsPush w P s a c d g k sl pc tp) (i : Nat) : w.frozen? ⟨P, i, none⟩ = false := by
  have h' : w.heap[P]? = _ := h
  simp [World.frozen?, h']
theorem IsPush.lt {w : World} {P : Nat} {s a c d g k sl pc : Int} {tp : Nat} (h : IsPush w P s a c d g k sl pc tp) : P < w.heap.size := lt_of_block h
theorem IsPush.chg {L : List Nat} {w w' : World} {P : Nat} {s a c d g k sl pc : Int} {tp : Nat} (h : IsPush w P s a c d g k sl pc tp) (x : Chg L w w') (hn : P ∉ L) : IsPush w' P s a c d g k sl pc tp := x.at h hn
theorem IsPush.below {w w' : World} {P : Nat} {s a c d g k sl pc : Int} {tp : Nat} (h : IsPush w P s a c d g k sl pc tp) (x : Below w.heap.size w w') : IsPush w' P s a c d g k sl pc tp := h.chg (L := []) (Chg.of_below x) (by simp)

theorem IsPop.set0 {w : World} {P : Nat} {s a c d g k sl : Int} {em : Bool} {pc : Int} {tp : Nat} {nx : Int} (h : IsPop w P s a c d g k sl em pc tp nx) (v : Int) : IsPop (w.setCell ⟨P, 0, none⟩ (.int .i64 v)) P s a c d g k v em pc tp nx := Mm.heap_setCell_at h _
theorem IsPop.set1 {w : World} {P : Nat} {s a c d g k sl : Int} {em : Bool} {pc : Int} {tp : Nat} {nx : Int} (h : IsPop w P s a c d g k sl em pc tp nx) (v : Bool) : IsPop (w.setCell ⟨P, 1, none⟩ (.bool v)) P s a c d g k sl v pc tp nx := Mm.heap_setCell_at h _
theorem IsPop.set8 {w : World} {P : Nat} {s a c d g k sl : Int} {em : Bool} {pc : Int} {tp : Nat} {nx : Int} (h : IsPop w P s a c d g k sl em pc tp nx) (v : Int) : IsPop (w.setCell ⟨P, 8, none⟩ (.int .i64 v)) P s a c d g k sl em v tp nx := Mm.heap_setCell_at h _
theorem IsPop.set9 {w : World} {P : Nat} {s a c d g k sl : Int} {em : Bool} {pc : Int} {tp : Nat} {nx : Int} (h : IsPop w P s a c d g k sl em pc tp nx) (v : Nat) : IsPop (w.setCell ⟨P, 9, none⟩ (.int .u64 (v : Nat))) P s a c d g k sl em pc v nx := Mm.heap_setCell_at h _
theorem IsPop.set10 {w : World} {P : Nat} {s a c d g k sl : Int} {em : Bool} {pc : Int} {tp : Nat} {nx : Int} (h : IsPop w P s a c d g k sl em pc tp nx) (v : Int) : IsPop (w.setCell ⟨P, 10, none⟩ (.int .i64 v)) P s a c d g k sl em pc tp v := Mm.heap_setCell_at h _
theorem IsPush.set7 {w : World} {P : Nat} {s a c d g k sl pc : Int} {tp : Nat} (h : IsPush w P s a c d g k sl pc tp) (v : Int) : IsPush (w.setCell ⟨P, 7, none⟩ (.int .i64 v)) P s a c d g k sl v tp := Mm.heap_setCell_at h _
theorem IsPush.set8 {w : World} {P : Nat} {s a c d g k sl pc : Int} {tp : Nat} (h : IsPush w P s a c d g k sl pc tp) (v : Nat) : IsPush (w.setCell ⟨P, 8, none⟩ (.int .u64 (v : Nat))) P s a c d g k sl pc v := Mm.heap_setCell_at h _

/-- The slot that a number names, or -1. -/
def nmd (S x : Nat) : Int := if S < x then -1 else (x : Int) - 1
/-- The slot that a top names, or -1. -/
def fst (S t : Nat) : Int := nmd S (t % 65536)
theorem nmd_b (S x : Nat) : -1 ≤ nmd S x ∧ nmd S x < (S : Int) ∨ nmd S x = -1 := by unfold nmd; split <;> omega
theorem nmd_cases (S x : Nat) : nmd S x = -1 ∨ ∃ s : Nat, s < S ∧ nmd S x = (s : Int) ∧ x = s + 1 := by
  unfold nmd
  by_cases h : S < x
  · left; rw [if_pos h]
  · rw [if_neg h]
    cases x with
    | zero => left; rfl
    | succ s => right; exact ⟨s, by omega, by omega, rfl⟩
theorem nmd_of {S s : Nat} (h : s < S) : nmd S (s + 1) = (s : Int) := by unfold nmd; rw [if_neg (by omega)]; omega
theorem nmd_zero (S : Nat) : nmd S 0 = -1 := by unfold nmd; rw [if_neg (by omega)]; rfl

end Go.Proofs.Ytcfallaekedmkaa
