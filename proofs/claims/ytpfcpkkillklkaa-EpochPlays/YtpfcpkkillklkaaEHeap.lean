/- Machines of package epoch as they lie in the heap, and which blocks a step may turn: no walk in sight. -/
import Derived.Test.YtpfcpkkillklkaaPMem
import Derived.Test.YtpfcpkkillklkaaPSizes
import Derived.Test.YtpfcpkkillklkaaMTouch
import Derived.Test.YtpfcpkkillklkaaTBase
import Derived.Deep.RegionHeld
namespace Go.Proofs.Ytpfcpkkillklkaa
open Go.RowKit
open Mm (IsMem MS touched Only)

/-- A config that is right, its numbers as natural ones. -/
structure Cf where
  S : Nat
  a : Int
  C : Nat
  D : Nat
  g : Int
  k : Int
  B : Nat

structure Cf.Ok (K : Cf) : Prop where
  r : rightB K.S K.a K.C K.D K.g K.k = true
  b : bsI K.a = (K.B : Int)
  b8 : K.B ≤ 8
  c8 : K.C ≤ 8
  d16 : K.D ≤ 16
  s64 : K.S ≤ 64
  s1 : 1 ≤ K.S
  d1 : 1 ≤ K.D

abbrev Cf.cs (K : Cf) : Array Value := #[.int .i64 (K.S : Nat), .int .i64 K.a, .int .i64 (K.C : Nat), .int .i64 (K.D : Nat), .int .i64 K.g, .int .i64 K.k]
def Cf.N (K : Cf) : Nat := nW K.C K.D K.B K.S
def Cf.lk (K : Cf) (s : Nat) : Nat := 4 + K.C + K.C * K.D + 2 * K.C + s * (2 + K.B) + 1

theorem Cf.of_right {s a c d g k : Int} (hr : rightB s a c d g k = true) : ∃ K : Cf, K.Ok ∧ s = (K.S : Int) ∧ a = K.a ∧ c = (K.C : Int) ∧ d = (K.D : Int) ∧ g = K.g ∧ k = K.k := by
  obtain ⟨C, D, S, B, rfl, rfl, rfl, hB, hB8, _, hD1, _, hS1, hC8, hD16, hS64⟩ := nat_cfg hr
  exact ⟨⟨S, a, C, D, g, k, B⟩, ⟨hr, hB, hB8, hC8, hD16, hS64, hS1, hD1⟩, rfl, rfl, rfl, rfl, rfl, rfl⟩

theorem Cf.Ok.lk_lt {K : Cf} (_ : K.Ok) {s : Nat} (hs : s < K.S) : K.lk s < K.N := by
  have h1 : (s + 1) * (2 + K.B) ≤ K.S * (2 + K.B) := Nat.mul_le_mul_right _ hs
  rw [Nat.succ_mul] at h1
  unfold Cf.lk Cf.N nW; omega
theorem Cf.Ok.N_b {K : Cf} (h : K.Ok) : 4 ≤ K.N ∧ K.N ≤ 796 := nW_b h.c8 h.d16 h.s64 h.b8
theorem Cf.lk_4 (K : Cf) (s : Nat) : 4 < K.lk s := by unfold Cf.lk; omega
theorem Cf.lk_inj (K : Cf) {s t : Nat} (h : K.lk s = K.lk t) : s = t := by
  unfold Cf.lk at h
  have : s * (2 + K.B) = t * (2 + K.B) := by omega
  exact Nat.eq_of_mul_eq_mul_right (by omega) this

/-- Some blocks alone have changed; there may be new ones. -/
structure Chg (L : List Nat) (w w' : World) : Prop where
  os : w'.os = w.os
  tape : w'.tape = w.tape
  output : w'.output = w.output
  size : w.heap.size ≤ w'.heap.size
  block : ∀ i, i < w.heap.size → i ∉ L → w'.heap[i]? = w.heap[i]?

theorem Chg.refl (L : List Nat) (w : World) : Chg L w w := ⟨rfl, rfl, rfl, Nat.le_refl _, fun _ _ _ => rfl⟩
theorem Chg.trans {L : List Nat} {a b c : World} (h : Chg L a b) (k : Chg L b c) : Chg L a c :=
  ⟨k.os.trans h.os, k.tape.trans h.tape, k.output.trans h.output, Nat.le_trans h.size k.size, fun i hi hn => (k.block i (Nat.lt_of_lt_of_le hi h.size) hn).trans (h.block i hi hn)⟩
/-- Blocks that are newer than the first world may be left out. -/
theorem Chg.mono {L L' : List Nat} {a b : World} (h : Chg L a b) (hs : ∀ i ∈ L, i ∈ L' ∨ a.heap.size ≤ i) : Chg L' a b :=
  ⟨h.os, h.tape, h.output, h.size, fun i hi hn => h.block i hi fun hm => by rcases hs i hm with h1 | h1 <;> first | exact hn h1 | omega⟩
theorem Chg.of_only {L : List Nat} {M G : Nat} {w w' : World} (h : Only M G w w') (hM : M ∈ L) (hG : G ∈ L) : Chg L w w' :=
  ⟨h.os, h.tape, h.output, h.size, fun i hi hn => h.block i hi (fun e => hn (e ▸ hM)) (fun e => hn (e ▸ hG))⟩
theorem Chg.of_below {L : List Nat} {w w' : World} (h : Below w.heap.size w w') : Chg L w w' := ⟨h.os, h.tape, h.output, h.size, fun i hi _ => h.block i hi⟩
theorem Chg.setCell {L : List Nat} {a w : World} (h : Chg L a w) {b o : Nat} (hb : b ∈ L ∨ a.heap.size ≤ b) (v : Value) : Chg L a (w.setCell ⟨b, o, none⟩ v) :=
  ⟨h.os, h.tape, h.output, by simpa [World.setCell] using h.size, fun i hi hn => (Below.heap_setCell _ _ _ _ (by show i ≠ b; intro e; subst e; rcases hb with h1 | h1 <;> first | exact hn h1 | omega)).trans (h.block i hi hn)⟩
theorem Chg.alloc {L : List Nat} {a w : World} (h : Chg L a w) (o : Obj) : Chg L a (w.alloc o) := h.trans (Chg.of_below (alloc_below w o))
theorem Chg.below {L : List Nat} {B : Nat} {w0 w w' : World} (h : Chg L w w') (h0 : Below B w0 w) (hL : ∀ i ∈ L, B ≤ i) (hB : B ≤ w0.heap.size) : Below B w0 w' :=
  h0.trans ⟨h.os, h.tape, h.output, h.size, fun i hi => h.block i (Nat.lt_of_lt_of_le hi (Nat.le_trans hB h0.size)) fun hm => by have := hL i hm; omega⟩
theorem Chg.then_below {L : List Nat} {a b c : World} (h : Chg L a b) (k : Below b.heap.size b c) : Chg L a c := h.trans (Chg.of_below k)
theorem Chg.at {L : List Nat} {w w' : World} (h : Chg L w w') {i : Nat} {o : Obj} (ho : w.heap[i]? = some o) (hn : i ∉ L) : w'.heap[i]? = some o := (h.block i (lt_of_block ho) hn).trans ho
theorem IsMem.chg {L : List Nat} {w w' : World} {M G : Nat} {s : MS} (h : IsMem w M G s) (k : Chg L w w') (h1 : M ∉ L) (h2 : G ∉ L) : IsMem w' M G s :=
  ⟨k.at h.head h1, k.at h.row h2, h.ne, h.fits⟩
theorem IsCfg.chg {L : List Nat} {w w' : World} {B : Nat} {s a c d g k : Int} (h : IsCfg w B s a c d g k) (x : Chg L w w') (h1 : B ∉ L) : IsCfg w' B s a c d g k := x.at h h1

def IsPin (w : World) (P : Nat) (E : Nat) (pl : Int) (pc : Int) (e : Nat) : Prop :=
  w.heap[P]? = some (.cells #[.int .u64 (E : Nat), .int .i64 pl, .int .i64 pc, .int .u64 (e : Nat)] 48 (0, 0))
theorem IsPin.cells {w : World} {P : Nat} {E : Nat} {pl : Int} {pc : Int} {e : Nat} (h : IsPin w P E pl pc e) : w.cell? ⟨P, 0, none⟩ = some (.int .u64 (E : Nat)) ∧ w.cell? ⟨P, 1, none⟩ = some (.int .i64 pl) ∧ w.cell? ⟨P, 2, none⟩ = some (.int .i64 pc) ∧ w.cell? ⟨P, 3, none⟩ = some (.int .u64 (e : Nat)) := by
  have h' : w.heap[P]? = _ := h
  simp [World.cell?, h']
theorem IsPin.free {w : World} {P : Nat} {E : Nat} {pl : Int} {pc : Int} {e : Nat} (h : IsPin w P E pl pc e) (i : Nat) : w.frozen? ⟨P, i, none⟩ = false := by
  have h' : w.heap[P]? = _ := h
  simp [World.frozen?, h']
theorem IsPin.lt {w : World} {P : Nat} {E : Nat} {pl : Int} {pc : Int} {e : Nat} (h : IsPin w P E pl pc e) : P < w.heap.size := lt_of_block h
theorem IsPin.chg {L : List Nat} {w w' : World} {P : Nat} {E : Nat} {pl : Int} {pc : Int} {e : Nat} (h : IsPin w P E pl pc e) (x : Chg L w w') (hn : P ∉ L) : IsPin w' P E pl pc e := x.at h hn
theorem IsPin.below {w w' : World} {P : Nat} {E : Nat} {pl : Int} {pc : Int} {e : Nat} (h : IsPin w P E pl pc e) (x : Below w.heap.size w w') : IsPin w' P E pl pc e := h.chg (L := []) (Chg.of_below x) (by simp)
theorem IsPin.only {M G : Nat} {w w' : World} {P : Nat} {E : Nat} {pl : Int} {pc : Int} {e : Nat} (h : IsPin w P E pl pc e) (o : Only M G w w') (h1 : P ≠ M) (h2 : P ≠ G) : IsPin w' P E pl pc e := h.chg (L := [M, G]) (Chg.of_only o (by simp) (by simp)) (by simp [h1, h2])
theorem IsPin.set0 {w : World} {P : Nat} {E : Nat} {pl : Int} {pc : Int} {e : Nat} (h : IsPin w P E pl pc e) (v : Nat) : IsPin (w.setCell ⟨P, 0, none⟩ (.int .u64 (v : Nat))) P v pl pc e := Mm.heap_setCell_at h _
theorem IsPin.set2 {w : World} {P : Nat} {E : Nat} {pl : Int} {pc : Int} {e : Nat} (h : IsPin w P E pl pc e) (v : Int) : IsPin (w.setCell ⟨P, 2, none⟩ (.int .i64 v)) P E pl v e := Mm.heap_setCell_at h _
theorem IsPin.set3 {w : World} {P : Nat} {E : Nat} {pl : Int} {pc : Int} {e : Nat} (h : IsPin w P E pl pc e) (v : Nat) : IsPin (w.setCell ⟨P, 3, none⟩ (.int .u64 (v : Nat))) P E pl pc v := Mm.heap_setCell_at h _

def IsLeave (w : World) (P : Nat) (pl : Int) (pc : Int) : Prop :=
  w.heap[P]? = some (.cells #[.int .i64 pl, .int .i64 pc] 72 (0, 0))
theorem IsLeave.cells {w : World} {P : Nat} {pl : Int} {pc : Int} (h : IsLeave w P pl pc) : w.cell? ⟨P, 0, none⟩ = some (.int .i64 pl) ∧ w.cell? ⟨P, 1, none⟩ = some (.int .i64 pc) := by
  have h' : w.heap[P]? = _ := h
  simp [World.cell?, h']
theorem IsLeave.free {w : World} {P : Nat} {pl : Int} {pc : Int} (h : IsLeave w P pl pc) (i : Nat) : w.frozen? ⟨P, i, none⟩ = false := by
  have h' : w.heap[P]? = _ := h
  simp [World.frozen?, h']
theorem IsLeave.lt {w : World} {P : Nat} {pl : Int} {pc : Int} (h : IsLeave w P pl pc) : P < w.heap.size := lt_of_block h
theorem IsLeave.chg {L : List Nat} {w w' : World} {P : Nat} {pl : Int} {pc : Int} (h : IsLeave w P pl pc) (x : Chg L w w') (hn : P ∉ L) : IsLeave w' P pl pc := x.at h hn
theorem IsLeave.below {w w' : World} {P : Nat} {pl : Int} {pc : Int} (h : IsLeave w P pl pc) (x : Below w.heap.size w w') : IsLeave w' P pl pc := h.chg (L := []) (Chg.of_below x) (by simp)
theorem IsLeave.only {M G : Nat} {w w' : World} {P : Nat} {pl : Int} {pc : Int} (h : IsLeave w P pl pc) (o : Only M G w w') (h1 : P ≠ M) (h2 : P ≠ G) : IsLeave w' P pl pc := h.chg (L := [M, G]) (Chg.of_only o (by simp) (by simp)) (by simp [h1, h2])
theorem IsLeave.set1 {w : World} {P : Nat} {pl : Int} {pc : Int} (h : IsLeave w P pl pc) (v : Int) : IsLeave (w.setCell ⟨P, 1, none⟩ (.int .i64 v)) P pl v := Mm.heap_setCell_at h _

def IsAdv (w : World) (P : Nat) (E : Nat) (s : Int) (a : Int) (c : Int) (d : Int) (g : Int) (k : Int) (pc : Int) (e : Nat) (wh : Int) : Prop :=
  w.heap[P]? = some (.cells #[.int .u64 (E : Nat), .int .i64 s, .int .i64 a, .int .i64 c, .int .i64 d, .int .i64 g, .int .i64 k, .int .i64 pc, .int .u64 (e : Nat), .int .i64 wh] 42 (0, 0))
theorem IsAdv.cells {w : World} {P : Nat} {E : Nat} {s : Int} {a : Int} {c : Int} {d : Int} {g : Int} {k : Int} {pc : Int} {e : Nat} {wh : Int} (h : IsAdv w P E s a c d g k pc e wh) : w.cell? ⟨P, 0, none⟩ = some (.int .u64 (E : Nat)) ∧ w.cell? ⟨P, 1, none⟩ = some (.int .i64 s) ∧ w.cell? ⟨P, 2, none⟩ = some (.int .i64 a) ∧ w.cell? ⟨P, 3, none⟩ = some (.int .i64 c) ∧ w.cell? ⟨P, 4, none⟩ = some (.int .i64 d) ∧ w.cell? ⟨P, 5, none⟩ = some (.int .i64 g) ∧ w.cell? ⟨P, 6, none⟩ = some (.int .i64 k) ∧ w.cell? ⟨P, 7, none⟩ = some (.int .i64 pc) ∧ w.cell? ⟨P, 8, none⟩ = some (.int .u64 (e : Nat)) ∧ w.cell? ⟨P, 9, none⟩ = some (.int .i64 wh) := by
  have h' : w.heap[P]? = _ := h
  simp [World.cell?, h']
theorem IsAdv.free {w : World} {P : Nat} {E : Nat} {s : Int} {a : Int} {c : Int} {d : Int} {g : Int} {k : Int} {pc : Int} {e : Nat} {wh : Int} (h : IsAdv w P E s a c d g k pc e wh) (i : Nat) : w.frozen? ⟨P, i, none⟩ = false := by
  have h' : w.heap[P]? = _ := h
  simp [World.frozen?, h']
theorem IsAdv.lt {w : World} {P : Nat} {E : Nat} {s : Int} {a : Int} {c : Int} {d : Int} {g : Int} {k : Int} {pc : Int} {e : Nat} {wh : Int} (h : IsAdv w P E s a c d g k pc e wh) : P < w.heap.size := lt_of_block h
theorem IsAdv.chg {L : List Nat} {w w' : World} {P : Nat} {E : Nat} {s : Int} {a : Int} {c : Int} {d : Int} {g : Int} {k : Int} {pc : Int} {e : Nat} {wh : Int} (h : IsAdv w P E s a c d g k pc e wh) (x : Chg L w w') (hn : P ∉ L) : IsAdv w' P E s a c d g k pc e wh := x.at h hn
theorem IsAdv.below {w w' : World} {P : Nat} {E : Nat} {s : Int} {a : Int} {c : Int} {d : Int} {g : Int} {k : Int} {pc : Int} {e : Nat} {wh : Int} (h : IsAdv w P E s a c d g k pc e wh) (x : Below w.heap.size w w') : IsAdv w' P E s a c d g k pc e wh := h.chg (L := []) (Chg.of_below x) (by simp)
theorem IsAdv.only {M G : Nat} {w w' : World} {P : Nat} {E : Nat} {s : Int} {a : Int} {c : Int} {d : Int} {g : Int} {k : Int} {pc : Int} {e : Nat} {wh : Int} (h : IsAdv w P E s a c d g k pc e wh) (o : Only M G w w') (h1 : P ≠ M) (h2 : P ≠ G) : IsAdv w' P E s a c d g k pc e wh := h.chg (L := [M, G]) (Chg.of_only o (by simp) (by simp)) (by simp [h1, h2])
theorem IsAdv.set0 {w : World} {P : Nat} {E : Nat} {s : Int} {a : Int} {c : Int} {d : Int} {g : Int} {k : Int} {pc : Int} {e : Nat} {wh : Int} (h : IsAdv w P E s a c d g k pc e wh) (v : Nat) : IsAdv (w.setCell ⟨P, 0, none⟩ (.int .u64 (v : Nat))) P v s a c d g k pc e wh := Mm.heap_setCell_at h _
theorem IsAdv.set7 {w : World} {P : Nat} {E : Nat} {s : Int} {a : Int} {c : Int} {d : Int} {g : Int} {k : Int} {pc : Int} {e : Nat} {wh : Int} (h : IsAdv w P E s a c d g k pc e wh) (v : Int) : IsAdv (w.setCell ⟨P, 7, none⟩ (.int .i64 v)) P E s a c d g k v e wh := Mm.heap_setCell_at h _
theorem IsAdv.set8 {w : World} {P : Nat} {E : Nat} {s : Int} {a : Int} {c : Int} {d : Int} {g : Int} {k : Int} {pc : Int} {e : Nat} {wh : Int} (h : IsAdv w P E s a c d g k pc e wh) (v : Nat) : IsAdv (w.setCell ⟨P, 8, none⟩ (.int .u64 (v : Nat))) P E s a c d g k pc v wh := Mm.heap_setCell_at h _
theorem IsAdv.set9 {w : World} {P : Nat} {E : Nat} {s : Int} {a : Int} {c : Int} {d : Int} {g : Int} {k : Int} {pc : Int} {e : Nat} {wh : Int} (h : IsAdv w P E s a c d g k pc e wh) (v : Int) : IsAdv (w.setCell ⟨P, 9, none⟩ (.int .i64 v)) P E s a c d g k pc e v := Mm.heap_setCell_at h _

theorem mem_set {w : World} {M G P i : Nat} {m : MS} (h : IsMem w M G m) (h1 : P ≠ M) (h2 : P ≠ G) (v : Value) : IsMem (w.setCell ⟨P, i, none⟩ v) M G m :=
  IsMem.chg (L := [P]) h ((Chg.refl [P] w).setCell (by simp) v) (by simp [Ne.symm h1]) (by simp [Ne.symm h2])
theorem new_obj (w : World) (o : Obj) : (w.alloc o).heap[w.heap.size]? = some o := (MapKept.heap_alloc w o).1

theorem set_self (X : List Nat) (i : Nat) : X.set i (X.getD i 0) = X := by
  apply List.ext_getElem?
  intro j
  rw [List.getElem?_set]
  split
  · rename_i h; subst h
    split
    · rename_i h; simp [h]
    · rename_i h; simp [h]
  · rfl
theorem getD_set (X : List Nat) (i v j : Nat) : (X.set i v).getD j 0 = if i = j ∧ i < X.length then v else X.getD j 0 := by
  simp only [List.getD_eq_getElem?_getD]
  rw [List.getElem?_set]
  by_cases h : i = j
  · subst h
    by_cases hi : i < X.length
    · simp [hi]
    · simp [hi]
  · simp [h]
theorem touched_X (m : MS) (kd : Int) (i : Nat) : (touched m kd i (m.X.getD i 0)).X = m.X := set_self m.X i
end Go.Proofs.Ytpfcpkkillklkaa
