/- A memory of words as it lies in the heap, and what may turn in a world: no program in sight. -/
import Derived.WalkKit
import Derived.WalkSpells
import Derived.WalkLawsBesides
import Derived.OneCell
import Derived.Deep.Draws
import Derived.Test.YtcioomopgdhlmaaGreatDoorRows
import Derived.Laws.BitsAllLaws
import Derived.OpenShut
import Derived.Laws.CopyOwn
import Derived.BigQuiet
import Derived.Deep.RegionWith
namespace Go.Proofs.YtcioomopgdhlmaaGreatDoor.Mm
open Go.RowKit

/-- What a memory holds: its words; how many touches there were; the last one. -/
structure MS where
  X : List Nat
  t : Int
  k : Int
  a : Int
  p : Int
  q : Int

def wordsOf (X : List Nat) : Array Value := (X.map fun (x : Nat) => Value.int .u64 (x : Int)).toArray

/-- Block M is the memory's struct, block G its row of words. -/
structure IsMem (w : World) (M G : Nat) (s : MS) : Prop where
  head : w.heap[M]? = some (.cells #[.slice (some ⟨G, 0, none⟩) s.X.length s.X.length, .int .i64 s.t, .int .i64 s.k, .int .i64 s.a, .int .u64 s.p, .int .u64 s.q] 77 (0, 0))
  row : w.heap[G]? = some (.cells (wordsOf s.X) 26 (0, 0))
  ne : M ≠ G
  fits : ∀ x ∈ s.X, x < 18446744073709551616

/-- All but two blocks is as it was; there may be new blocks. -/
structure Only (M G : Nat) (w w' : World) : Prop where
  os : w'.os = w.os
  tape : w'.tape = w.tape
  output : w'.output = w.output
  size : w.heap.size ≤ w'.heap.size
  block : ∀ i, i < w.heap.size → i ≠ M → i ≠ G → w'.heap[i]? = w.heap[i]?

theorem Only.refl (M G : Nat) (w : World) : Only M G w w := ⟨rfl, rfl, rfl, Nat.le_refl _, fun _ _ _ _ => rfl⟩
theorem Only.trans {M G : Nat} {a b c : World} (h : Only M G a b) (k : Only M G b c) : Only M G a c :=
  ⟨k.os.trans h.os, k.tape.trans h.tape, k.output.trans h.output, Nat.le_trans h.size k.size, fun i hi h1 h2 => (k.block i (Nat.lt_of_lt_of_le hi h.size) h1 h2).trans (h.block i hi h1 h2)⟩
theorem Only.setCell {M G : Nat} {a w : World} (h : Only M G a w) {b o : Nat} (hb : b = M ∨ b = G) (v : Value) : Only M G a (w.setCell ⟨b, o, none⟩ v) :=
  h.trans ⟨rfl, rfl, rfl, by simp [World.setCell], fun i _ h1 h2 => Below.heap_setCell _ _ _ _ (by rcases hb with rfl | rfl <;> assumption)⟩
theorem Only.of_below {M G : Nat} {w w' : World} (h : Below w.heap.size w w') : Only M G w w' := ⟨h.os, h.tape, h.output, h.size, fun i hi _ _ => h.block i hi⟩
theorem Only.below {M G B : Nat} {w0 w w' : World} (h0 : Below B w0 w) (h : Only M G w w') (hM : B ≤ M) (hG : B ≤ G) (hB : B ≤ w0.heap.size) : Below B w0 w' :=
  h0.trans ⟨h.os, h.tape, h.output, h.size, fun i hi => h.block i (Nat.lt_of_lt_of_le hi (Nat.le_trans hB h0.size)) (by omega) (by omega)⟩
theorem Only.cell {M G : Nat} {w w' : World} (h : Only M G w w') {x : Addr} (hx : x.block < w.heap.size) (h1 : x.block ≠ M) (h2 : x.block ≠ G) : w'.cell? x = w.cell? x := World.cell?_of_block (w := w) (h.block _ hx h1 h2)

theorem IsMem.M_lt {w : World} {M G : Nat} {s : MS} (h : IsMem w M G s) : M < w.heap.size := lt_of_block h.head
theorem IsMem.G_lt {w : World} {M G : Nat} {s : MS} (h : IsMem w M G s) : G < w.heap.size := lt_of_block h.row

theorem IsMem.other {w w' : World} {M G M' G' : Nat} {s : MS} (h : IsMem w M G s) (ho : Only M' G' w w') (h1 : M ≠ M') (h2 : M ≠ G') (h3 : G ≠ M') (h4 : G ≠ G') : IsMem w' M G s :=
  ⟨by rw [ho.block M h.M_lt h1 h2]; exact h.head, by rw [ho.block G h.G_lt h3 h4]; exact h.row, h.ne, h.fits⟩
theorem IsMem.below {w w' : World} {M G : Nat} {s : MS} (h : IsMem w M G s) (hb : Below w.heap.size w w') : IsMem w' M G s :=
  ⟨by rw [hb.block M h.M_lt]; exact h.head, by rw [hb.block G h.G_lt]; exact h.row, h.ne, h.fits⟩

theorem IsMem.c0 {w : World} {M G : Nat} {s : MS} (h : IsMem w M G s) : w.cell? ⟨M, 0, none⟩ = some (.slice (some ⟨G, 0, none⟩) s.X.length s.X.length) := by simp [World.cell?, h.head]
theorem IsMem.c1 {w : World} {M G : Nat} {s : MS} (h : IsMem w M G s) : w.cell? ⟨M, 1, none⟩ = some (.int .i64 s.t) := by simp [World.cell?, h.head]
theorem IsMem.c2 {w : World} {M G : Nat} {s : MS} (h : IsMem w M G s) : w.cell? ⟨M, 2, none⟩ = some (.int .i64 s.k) := by simp [World.cell?, h.head]
theorem IsMem.c3 {w : World} {M G : Nat} {s : MS} (h : IsMem w M G s) : w.cell? ⟨M, 3, none⟩ = some (.int .i64 s.a) := by simp [World.cell?, h.head]
theorem IsMem.c4 {w : World} {M G : Nat} {s : MS} (h : IsMem w M G s) : w.cell? ⟨M, 4, none⟩ = some (.int .u64 s.p) := by simp [World.cell?, h.head]
theorem IsMem.c5 {w : World} {M G : Nat} {s : MS} (h : IsMem w M G s) : w.cell? ⟨M, 5, none⟩ = some (.int .u64 s.q) := by simp [World.cell?, h.head]
theorem IsMem.fM {w : World} {M G : Nat} {s : MS} (h : IsMem w M G s) (i : Nat) : w.frozen? ⟨M, i, none⟩ = false := by simp [World.frozen?, h.head]
theorem IsMem.fG {w : World} {M G : Nat} {s : MS} (h : IsMem w M G s) (i : Nat) : w.frozen? ⟨G, i, none⟩ = false := by simp [World.frozen?, h.row]
theorem IsMem.word {w : World} {M G : Nat} {s : MS} (h : IsMem w M G s) (i : Nat) (hi : i < s.X.length) : w.cell? ⟨G, i, none⟩ = some (.int .u64 ((s.X.getD i 0 : Nat) : Int)) := by
  simp [World.cell?, h.row, wordsOf, hi]
theorem IsMem.word_lt {w : World} {M G : Nat} {s : MS} (h : IsMem w M G s) (i : Nat) : s.X.getD i 0 < 18446744073709551616 := by
  by_cases hi : i < s.X.length
  · have e : s.X.getD i 0 = s.X[i] := by simp [List.getD, hi]
    rw [e]; exact h.fits _ (List.getElem_mem hi)
  · have e : s.X.getD i 0 = 0 := by simp [List.getD, hi]
    rw [e]; omega

theorem heap_setCell_at {w : World} {b o : Nat} {c : Array Value} {e : TypeId} {fz : Nat × Nat} (h : w.heap[b]? = some (.cells c e fz)) (v : Value) :
    (w.setCell ⟨b, o, none⟩ v).heap[b]? = some (.cells (c.setIfInBounds o v) e fz) := by
  have hlt := lt_of_block h
  have h' : w.heap[b] = .cells c e fz := by simpa [Array.getElem?_eq_getElem hlt] using h
  show (w.heap.modify b _)[b]? = _
  rw [Array.getElem?_eq_getElem (by simpa using hlt), Array.getElem_modify_self, h']
  rfl

def touched (s : MS) (kd : Int) (i : Nat) (v : Nat) : MS := ⟨s.X.set i v, s.t + 1, kd, i, (s.X.getD i 0 : Nat), v⟩

theorem mem_touched {w : World} {M G : Nat} {s : MS} (h : IsMem w M G s) (kd : Int) (i v : Nat) (hv : v < 18446744073709551616) :
    IsMem ((((((w.setCell ⟨M, 2, none⟩ (.int .i64 kd)).setCell ⟨M, 3, none⟩ (.int .i64 i)).setCell ⟨M, 4, none⟩ (.int .u64 (s.X.getD i 0 : Nat))).setCell ⟨M, 5, none⟩ (.int .u64 v)).setCell ⟨G, i, none⟩ (.int .u64 v)).setCell ⟨M, 1, none⟩ (.int .i64 (s.t + 1))) M G (touched s kd i v) := by
  have hne := h.ne
  refine ⟨?_, ?_, h.ne, ?_⟩
  · have e1 := heap_setCell_at (o := 2) h.head (.int .i64 kd)
    have e2 := heap_setCell_at (o := 3) e1 (.int .i64 i)
    have e3 := heap_setCell_at (o := 4) e2 (.int .u64 (s.X.getD i 0 : Nat))
    have e4 := heap_setCell_at (o := 5) e3 (.int .u64 v)
    have e5 := (Below.heap_setCell _ ⟨G, i, none⟩ (.int .u64 v) M hne).trans e4
    have e6 := heap_setCell_at (o := 1) e5 (.int .i64 (s.t + 1))
    rw [e6]
    simp [touched]
  · rw [Below.heap_setCell _ _ _ _ (Ne.symm hne)]
    have e1 := (Below.heap_setCell w ⟨M, 2, none⟩ (.int .i64 kd) G (Ne.symm hne)).trans h.row
    have e2 := (Below.heap_setCell _ ⟨M, 3, none⟩ (.int .i64 i) G (Ne.symm hne)).trans e1
    have e3 := (Below.heap_setCell _ ⟨M, 4, none⟩ (.int .u64 (s.X.getD i 0 : Nat)) G (Ne.symm hne)).trans e2
    have e4 := (Below.heap_setCell _ ⟨M, 5, none⟩ (.int .u64 v) G (Ne.symm hne)).trans e3
    have e5 := heap_setCell_at (o := i) e4 (.int .u64 v)
    rw [e5]
    simp [touched, wordsOf, List.map_set]
  · intro x hx
    simp only [touched] at hx
    rcases List.mem_or_eq_of_mem_set hx with h1 | rfl
    · exact h.fits _ h1
    · exact hv

theorem only_touched {w : World} {M G : Nat} (v1 v2 v3 v4 v5 v6 : Value) (i : Nat) :
    Only M G w ((((((w.setCell ⟨M, 2, none⟩ v1).setCell ⟨M, 3, none⟩ v2).setCell ⟨M, 4, none⟩ v3).setCell ⟨M, 5, none⟩ v4).setCell ⟨G, i, none⟩ v5).setCell ⟨M, 1, none⟩ v6) :=
  ((((((Only.refl M G w).setCell (.inl rfl) _).setCell (.inl rfl) _).setCell (.inl rfl) _).setCell (.inl rfl) _).setCell (.inr rfl) _).setCell (.inl rfl) _

end Go.Proofs.YtcioomopgdhlmaaGreatDoor.Mm
/- Contracts of package mem's methods over a memory that lies in the heap, and over none. -/
namespace Go.Proofs.YtcioomopgdhlmaaGreatDoor.Mm
open Go.RowKit

set_option maxHeartbeats 400000 in
theorem size_any {M G : Nat} {s : MS} {w : World} (h : IsMem w M G s) : Calls Tryz.prog 45 #[.pointer (some ⟨M, 0, none⟩)] w fun e w' => e = .returned (.int .i64 (s.X.length : Nat)) ∧ w = w' := by
  have h0 := h.c0
  go_enter Tryz.func45, Tryz.ntmps45
  go_wp2
  go_ret
  exact ⟨rfl, rfl⟩

set_option maxHeartbeats 400000 in
theorem size_nil (w : World) : Calls Tryz.prog 45 #[.pointer none] w fun e w' => e = .returned (.int .i64 0) ∧ w = w' := by
  go_enter Tryz.func45, Tryz.ntmps45
  go_wp2
  go_ret
  exact ⟨rfl, rfl⟩

set_option maxHeartbeats 400000 in
theorem touches_any {M G : Nat} {s : MS} {w : World} (h : IsMem w M G s) : Calls Tryz.prog 43 #[.pointer (some ⟨M, 0, none⟩)] w fun e w' => e = .returned (.int .i64 s.t) ∧ w = w' := by
  have h1 := h.c1
  go_enter Tryz.func43, Tryz.ntmps43
  go_wp2
  go_ret
  exact ⟨rfl, rfl⟩

set_option maxHeartbeats 400000 in
theorem touches_nil (w : World) : Calls Tryz.prog 43 #[.pointer none] w fun e w' => e = .returned (.int .i64 0) ∧ w = w' := by
  go_enter Tryz.func43, Tryz.ntmps43
  go_wp2
  go_ret
  exact ⟨rfl, rfl⟩

end Go.Proofs.YtcioomopgdhlmaaGreatDoor.Mm
/- Contracts of package mem's methods over a memory that lies in the heap, and over none. -/
namespace Go.Proofs.YtcioomopgdhlmaaGreatDoor.Mm
open Go.RowKit

set_option maxHeartbeats 400000 in
theorem touch_any {M G : Nat} {s : MS} {w : World} (h : IsMem w M G s) (kd : Int) (i v : Nat) (hi : i < s.X.length) (hv : v < 18446744073709551616) (ht : 0 ≤ s.t ∧ s.t < 4611686018427387904) :
    Calls Tryz.prog 84 #[.pointer (some ⟨M, 0, none⟩), .int .i64 kd, .int .i64 i, .int .u64 v] w fun e w' => e = .returned (.tuple #[]) ∧ IsMem w' M G (touched s kd i v) ∧ Only M G w w' := by
  have hm := mem_touched h kd i v hv
  have ho := @only_touched w M G (.int .i64 kd) (.int .i64 i) (.int .u64 (s.X.getD i 0 : Nat)) (.int .u64 v) (.int .u64 v) (.int .i64 (s.t + 1)) i
  have HR : Hid (IsMem ((((((w.setCell ⟨M, 2, none⟩ (.int .i64 kd)).setCell ⟨M, 3, none⟩ (.int .i64 i)).setCell ⟨M, 4, none⟩ (.int .u64 (s.X.getD i 0 : Nat))).setCell ⟨M, 5, none⟩ (.int .u64 v)).setCell ⟨G, i, none⟩ (.int .u64 v)).setCell ⟨M, 1, none⟩ (.int .i64 (s.t + 1))) M G (touched s kd i v)) := hm
  have HO : Hid (Only M G w ((((((w.setCell ⟨M, 2, none⟩ (.int .i64 kd)).setCell ⟨M, 3, none⟩ (.int .i64 i)).setCell ⟨M, 4, none⟩ (.int .u64 (s.X.getD i 0 : Nat))).setCell ⟨M, 5, none⟩ (.int .u64 v)).setCell ⟨G, i, none⟩ (.int .u64 v)).setCell ⟨M, 1, none⟩ (.int .i64 (s.t + 1)))) := ho
  clear hm ho
  have h0 := h.c0
  have h1 := h.c1
  have h2 := h.c2
  have h3 := h.c3
  have h4 := h.c4
  have h5 := h.c5
  have f0 := h.fM
  have f1 := h.fG
  have hc := h.word i hi
  have hne := h.ne
  clear h
  generalize hX : s.X.getD i 0 = old at *
  generalize hL : s.X.length = n at *
  generalize hT : s.t = t at *
  clear hX hL hT
  go_enter Tryz.func84, Tryz.ntmps84
  go_wp2
  go_end0
  exact ⟨rfl, HR.out, HO.out⟩

set_option maxHeartbeats 400000 in
theorem has_any {M G : Nat} {s : MS} {w : World} (h : IsMem w M G s) (a : Int) : Calls Tryz.prog 83 #[.pointer (some ⟨M, 0, none⟩), .int .i64 a] w fun e w' => e = .returned (.bool (decide (0 ≤ a) && decide (a < (s.X.length : Nat)))) ∧ w = w' := by
  go_enter Tryz.func83, Tryz.ntmps83
  go_wp2_with (go_at_call 45; refine (size_any h).mono ?_; rintro e w' ⟨rfl, rfl⟩)
  all_goals go_ret
  · exact ⟨congrArg (fun b => Ending.returned (Value.bool b)) (by simp [*]), rfl⟩
  · have hn : ¬ 0 ≤ a := by omega
    exact ⟨congrArg (fun b => Ending.returned (Value.bool b)) (by simp [hn]), rfl⟩

set_option maxHeartbeats 400000 in
theorem has_nil (a : Int) (w : World) : Calls Tryz.prog 83 #[.pointer none, .int .i64 a] w fun e w' => e = .returned (.bool false) ∧ w = w' := by
  go_enter Tryz.func83, Tryz.ntmps83
  go_wp2_with (go_at_call 45; refine (size_nil _).mono ?_; rintro e w' ⟨rfl, rfl⟩)
  all_goals go_ret
  · have hn : ¬ a < 0 := by omega
    exact ⟨congrArg (fun b => Ending.returned (Value.bool b)) (by simp [hn]), rfl⟩
  · exact ⟨rfl, rfl⟩

def inR (s : MS) (a : Int) : Bool := decide (0 ≤ a) && decide (a < (s.X.length : Nat))
theorem inR_iff (s : MS) (a : Int) : inR s a = true ↔ 0 ≤ a ∧ a < (s.X.length : Nat) := by simp [inR]
theorem inR_no {s : MS} {a : Int} (h : ¬ (0 ≤ a ∧ a < (s.X.length : Nat))) : inR s a = false := by
  cases e : inR s a
  · rfl
  · exact absurd ((inR_iff s a).1 e) h
theorem has_R {M G : Nat} {s : MS} {w : World} (h : IsMem w M G s) (a : Int) (g : Bool) (hg : inR s a = g) : Calls Tryz.prog 83 #[.pointer (some ⟨M, 0, none⟩), .int .i64 a] w fun e w' => e = .returned (.bool g) ∧ w = w' := by
  subst hg; exact has_any h a

/-! Load -/
set_option maxHeartbeats 400000 in
theorem load_in {M G : Nat} {s : MS} {w : World} (h : IsMem w M G s) (i : Nat) (hi : i < s.X.length) (ht : 0 ≤ s.t ∧ s.t < 4611686018427387904) :
    Calls Tryz.prog 63 #[.pointer (some ⟨M, 0, none⟩), .int .i64 i] w fun e w' => e = .returned (.int .u64 (s.X.getD i 0 : Nat)) ∧ IsMem w' M G (touched s 1 i (s.X.getD i 0)) ∧ Only M G w w' := by
  have c1 := has_R h i true ((inR_iff s i).2 (by omega))
  have c2 := touch_any h 1 i (s.X.getD i 0) hi (h.word_lt i) ht
  have h0 := h.c0
  have hc := h.word i hi
  clear h
  generalize hX : s.X.getD i 0 = old at *
  generalize hL : s.X.length = n at *
  clear hX hL
  go_enter Tryz.func63, Tryz.ntmps63
  go_wp2_with (first
    | (go_at_call 83; refine c1.mono ?_; rintro e w' ⟨rfl, rfl⟩)
    | (go_at_call 84; refine c2.mono ?_; rintro e w' ⟨rfl, hm, ho⟩))
  go_ret
  exact ⟨rfl, by assumption, by assumption⟩

set_option maxHeartbeats 400000 in
theorem load_out {M G : Nat} {s : MS} {w : World} (h : IsMem w M G s) (a : Int) (ha : inR s a = false) :
    Calls Tryz.prog 63 #[.pointer (some ⟨M, 0, none⟩), .int .i64 a] w fun e w' => e = .returned (.int .u64 0) ∧ w = w' := by
  have c1 := has_R h a false ha
  go_enter Tryz.func63, Tryz.ntmps63
  go_wp2_with (go_at_call 83; refine c1.mono ?_; rintro e w' ⟨rfl, rfl⟩)
  go_ret
  exact ⟨rfl, rfl⟩

set_option maxHeartbeats 400000 in
theorem load_nil (a : Int) (w : World) : Calls Tryz.prog 63 #[.pointer none, .int .i64 a] w fun e w' => e = .returned (.int .u64 0) ∧ w = w' := by
  go_enter Tryz.func63, Tryz.ntmps63
  go_wp2_with (go_at_call 83; refine (has_nil a _).mono ?_; rintro e w' ⟨rfl, rfl⟩)
  go_ret
  exact ⟨rfl, rfl⟩

/-! Store -/
set_option maxHeartbeats 400000 in
theorem store_in {M G : Nat} {s : MS} {w : World} (h : IsMem w M G s) (i v : Nat) (hi : i < s.X.length) (hv : v < 18446744073709551616) (ht : 0 ≤ s.t ∧ s.t < 4611686018427387904) :
    Calls Tryz.prog 92 #[.pointer (some ⟨M, 0, none⟩), .int .i64 i, .int .u64 v] w fun e w' => e = .returned (.bool true) ∧ IsMem w' M G (touched s 2 i v) ∧ Only M G w w' := by
  have c1 := has_R h i true ((inR_iff s i).2 (by omega))
  have c2 := touch_any h 2 i v hi hv ht
  clear h
  go_enter Tryz.func92, Tryz.ntmps92
  go_wp2_with (first
    | (go_at_call 83; refine c1.mono ?_; rintro e w' ⟨rfl, rfl⟩)
    | (go_at_call 84; refine c2.mono ?_; rintro e w' ⟨rfl, hm, ho⟩))
  go_ret
  exact ⟨rfl, by assumption, by assumption⟩

set_option maxHeartbeats 400000 in
theorem store_out {M G : Nat} {s : MS} {w : World} (h : IsMem w M G s) (a : Int) (v : Nat) (ha : inR s a = false) :
    Calls Tryz.prog 92 #[.pointer (some ⟨M, 0, none⟩), .int .i64 a, .int .u64 v] w fun e w' => e = .returned (.bool false) ∧ w = w' := by
  have c1 := has_R h a false ha
  go_enter Tryz.func92, Tryz.ntmps92
  go_wp2_with (go_at_call 83; refine c1.mono ?_; rintro e w' ⟨rfl, rfl⟩)
  go_ret
  exact ⟨rfl, rfl⟩

set_option maxHeartbeats 400000 in
theorem store_nil (a : Int) (v : Nat) (w : World) : Calls Tryz.prog 92 #[.pointer none, .int .i64 a, .int .u64 v] w fun e w' => e = .returned (.bool false) ∧ w = w' := by
  go_enter Tryz.func92, Tryz.ntmps92
  go_wp2_with (go_at_call 83; refine (has_nil a _).mono ?_; rintro e w' ⟨rfl, rfl⟩)
  go_ret
  exact ⟨rfl, rfl⟩

/-! Swap -/
set_option maxHeartbeats 400000 in
theorem swap_yes {M G : Nat} {s : MS} {w : World} (h : IsMem w M G s) (i o v : Nat) (hi : i < s.X.length) (hv : v < 18446744073709551616) (ho : s.X.getD i 0 = o) (ht : 0 ≤ s.t ∧ s.t < 4611686018427387904) :
    Calls Tryz.prog 104 #[.pointer (some ⟨M, 0, none⟩), .int .i64 i, .int .u64 o, .int .u64 v] w fun e w' => e = .returned (.bool true) ∧ IsMem w' M G (touched s 3 i v) ∧ Only M G w w' := by
  have c1 := has_R h i true ((inR_iff s i).2 (by omega))
  have c2 := touch_any h 3 i v hi hv ht
  have h0 := h.c0
  have hc := h.word i hi
  clear h
  rw [ho] at hc
  clear ho
  generalize hL : s.X.length = n at *
  clear hL
  go_enter Tryz.func104, Tryz.ntmps104
  go_wp2_with (first
    | (go_at_call 83; refine c1.mono ?_; rintro e w' ⟨rfl, rfl⟩)
    | (go_at_call 84; refine c2.mono ?_; rintro e w' ⟨rfl, hm, ho⟩))
  go_ret
  exact ⟨rfl, by assumption, by assumption⟩

set_option maxHeartbeats 400000 in
theorem swap_no {M G : Nat} {s : MS} {w : World} (h : IsMem w M G s) (i o v : Nat) (hi : i < s.X.length) (ho : s.X.getD i 0 ≠ o) (ht : 0 ≤ s.t ∧ s.t < 4611686018427387904) :
    Calls Tryz.prog 104 #[.pointer (some ⟨M, 0, none⟩), .int .i64 i, .int .u64 o, .int .u64 v] w fun e w' => e = .returned (.bool false) ∧ IsMem w' M G (touched s 3 i (s.X.getD i 0)) ∧ Only M G w w' := by
  have c1 := has_R h i true ((inR_iff s i).2 (by omega))
  have c2 := touch_any h 3 i (s.X.getD i 0) hi (h.word_lt i) ht
  have h0 := h.c0
  have hc := h.word i hi
  clear h
  generalize hX : s.X.getD i 0 = old at *
  generalize hL : s.X.length = n at *
  clear hX hL
  have hno : ((old : Int) != (o : Int)) = true := by simp; omega
  go_enter Tryz.func104, Tryz.ntmps104
  go_wp2_with (first
    | (go_at_call 83; refine c1.mono ?_; rintro e w' ⟨rfl, rfl⟩)
    | (go_at_call 84; refine c2.mono ?_; rintro e w' ⟨rfl, hm, ho⟩))
  go_ret
  exact ⟨rfl, by assumption, by assumption⟩

set_option maxHeartbeats 400000 in
theorem swap_out {M G : Nat} {s : MS} {w : World} (h : IsMem w M G s) (a : Int) (o v : Nat) (ha : inR s a = false) :
    Calls Tryz.prog 104 #[.pointer (some ⟨M, 0, none⟩), .int .i64 a, .int .u64 o, .int .u64 v] w fun e w' => e = .returned (.bool false) ∧ w = w' := by
  have c1 := has_R h a false ha
  go_enter Tryz.func104, Tryz.ntmps104
  go_wp2_with (go_at_call 83; refine c1.mono ?_; rintro e w' ⟨rfl, rfl⟩)
  go_ret
  exact ⟨rfl, rfl⟩

set_option maxHeartbeats 400000 in
theorem swap_nil (a : Int) (o v : Nat) (w : World) : Calls Tryz.prog 104 #[.pointer none, .int .i64 a, .int .u64 o, .int .u64 v] w fun e w' => e = .returned (.bool false) ∧ w = w' := by
  go_enter Tryz.func104, Tryz.ntmps104
  go_wp2_with (go_at_call 83; refine (has_nil a _).mono ?_; rintro e w' ⟨rfl, rfl⟩)
  go_ret
  exact ⟨rfl, rfl⟩

/-! Add -/
def sumW (x y : Nat) : Nat := (x + y) % 18446744073709551616
theorem sumW_lt (x y : Nat) : sumW x y < 18446744073709551616 := Nat.mod_lt _ (by omega)
theorem sumW_eq (x y : Nat) : IntKind.u64.wrap ((x : Int) + (y : Int)) = (sumW x y : Nat) := by rw [IntKind.wrap_u64, sumW]; omega

end Go.Proofs.YtcioomopgdhlmaaGreatDoor.Mm
/- Contracts of mem.New, Words, Of, Copy and of the law's own 'same' and 'does'. -/
namespace Go.Proofs.YtcioomopgdhlmaaGreatDoor.Mm
open Go.RowKit

def IsWords (w : World) (R : Nat) (X : List Nat) : Prop := w.heap[R]? = some (.cells (wordsOf X) 26 (0, 0))

theorem drew_on {w1 wr : World} (h : Hid (∃ m, wr = w1.drewN m)) (n : Nat) : Hid (∃ m, wr.drewN n = w1.drewN m) := by
  obtain ⟨m, rfl⟩ := h.out
  exact ⟨m + n, by rw [World.drewN_drewN]⟩

def zeroMS (X : List Nat) : MS := ⟨X, 0, 0, 0, 0, 0⟩

theorem Tryz.info26 : (Tryz.prog.info? 26).map (fun i => (i.zero, i.size, i.bytes)) = some (some (.int .u64 0), 1, 8) := by kernel_rfl

theorem made_words {w : World} {base g n c : Nat} (h : w.ownsRow base 26 1 (.slice (some ⟨g, 0, none⟩) n c) n (madeCells #[Value.int .u64 0] n).toList) (hc : c = n) : IsWords w g (List.replicate n 0) := by
  obtain ⟨_, ⟨h0, _⟩ | ⟨g', c', cur, h1, h2, h3, h4, h5, h6, h7⟩⟩ := h
  · cases h0
  · simp only [Value.slice.injEq, Option.some.injEq, Addr.mk.injEq] at h1
    obtain ⟨⟨rfl, -⟩, -, rfl⟩ := h1
    subst hc
    rw [Nat.mul_one] at h6 h7
    have e : cur.toList.take c = cur.toList := List.take_of_length_le (by simp [h6])
    rw [e] at h7
    have e2 : (madeCells #[Value.int .u64 0] c).toList = List.replicate c (Value.int .u64 0) := toList_madeCells_one _ _
    rw [e2] at h7
    show w.heap[g]? = _
    rw [h3]
    have e3 : cur = wordsOf (List.replicate c 0) := by
      apply Array.ext'
      rw [h7]
      simp [wordsOf]
    rw [e3]

theorem of_grown {w w' : World} (h : w.grownBy w' none) : Below w.heap.size w w' := ⟨h.os, h.tape, h.output, h.size, fun k hk => h.block k hk (by simp)⟩

theorem heap_new (w : World) (o : Obj) : (w.alloc o).heap[w.heap.size]? = some o := (MapKept.heap_alloc w o).1

theorem new_mem {w w1 : World} {n : Nat} (hr : IsWords w1 w.heap.size (List.replicate n 0)) (hb : Below w.heap.size w w1) (o : Obj)
    (ho : o = .cells #[.slice (some ⟨w.heap.size, 0, none⟩) n n, .int .i64 0, .int .i64 0, .int .i64 0, .int .u64 0, .int .u64 0] 77 (0, 0)) :
    IsMem (w1.alloc o) w1.heap.size w.heap.size (zeroMS (List.replicate n 0)) ∧ Below w.heap.size w (w1.alloc o) := by
  have hlt : w.heap.size < w1.heap.size := lt_of_block hr
  refine ⟨⟨?_, ?_, by omega, ?_⟩, hb.alloc hb.size o⟩
  · rw [heap_new, ho]; simp [zeroMS]
  · rw [Below.heap_alloc _ _ _ hlt]; exact hr
  · intro x hx
    simp [zeroMS] at hx
    omega

set_option maxRecDepth 100000 in
set_option maxHeartbeats 400000 in
theorem new_any (n : Nat) (h : n ≤ 65536) (w : World) :
    Calls Tryz.prog 42 #[.int .i64 n] w fun e w' => ∃ M G, e = .returned (.pointer (some ⟨M, 0, none⟩)) ∧ IsMem w' M G (zeroMS (List.replicate n 0)) ∧ w.heap.size ≤ M ∧ w.heap.size ≤ G ∧ Below w.heap.size w w' := by
  obtain ⟨i0, hi, hz0, hz1, hz2⟩ := info_parts Tryz.info26
  go_enter Tryz.func42, Tryz.ntmps42
  go_wp2_with (at_make; refine wpList_make_full _ rfl _ _ 25 rfl w.heap.size 26 i0 (.int .u64 0) 1 Tryz.underlying25 hi hz0 hz1 .i64 .i64 n n n rfl rfl rfl rfl ?c1 ?c2 (Nat.le_refl _) ?_)
  case c1 => rw [hz2]; omega
  case c2 => unfold maxLen; omega
  · intro w1 hown hgrow
    have hr := made_words hown rfl
    have hb := of_grown hgrow
    have HR : Hid (IsWords w1 w.heap.size (List.replicate n 0)) := hr
    have HB : Hid (Below w.heap.size w w1) := hb
    clear hown hgrow hr hb
    go_wp2
    go_ret
    have R := new_mem HR.out HB.out _ rfl
    exact ⟨_, _, rfl, R.1, HB.out.size, Nat.le_refl _, R.2⟩

set_option maxHeartbeats 400000 in
theorem new_no (n : Int) (h : n < 0 ∨ 65536 < n) (w : World) : Calls Tryz.prog 42 #[.int .i64 n] w fun e w' => e = .returned (.pointer none) ∧ w = w' := by
  rcases h with h | h
  · go_enter Tryz.func42, Tryz.ntmps42
    go_wp2
    go_ret
    exact ⟨rfl, rfl⟩
  · go_enter Tryz.func42, Tryz.ntmps42
    go_wp2
    go_ret
    exact ⟨rfl, rfl⟩

/-! Words -/
theorem words_splice (n : Nat) (X : List Nat) (hl : X.length = n) : (splice (List.replicate n (Value.int .u64 0)) 0 (wordsOf X).toList).toArray = wordsOf X := by
  subst hl
  simp [splice, wordsOf]

theorem words_toList (X : List Nat) : (wordsOf X).toList = X.map fun (x : Nat) => Value.int .u64 (x : Int) := by simp [wordsOf]

theorem words_cell {w : World} {R : Nat} {X : List Nat} (h : IsWords w R X) (j : Nat) (v : Value) (hj : (wordsOf X)[j]? = some v) : w.cell? ⟨R, j, none⟩ = some v := by
  simp only [World.cell?, show w.heap[R]? = _ from h]
  simpa using hj
theorem words_at {w : World} {R : Nat} {X : List Nat} (h : IsWords w R X) (j : Nat) (hj : j < X.length) : w.cell? ⟨R, j, none⟩ = some (.int .u64 (X.getD j 0 : Nat)) :=
  words_cell h j _ (by simp [wordsOf, hj])
theorem words_one (X : List Nat) : ∀ v ∈ (wordsOf X).toList, v.oneCell' = true := by
  intro v hv
  rw [words_toList] at hv
  obtain ⟨x, _, rfl⟩ := List.mem_map.1 hv
  rfl
theorem add_none (b off i : Nat) : (⟨b, off, none⟩ : Addr).add i = ⟨b, off + i, none⟩ := by
  by_cases h : i = 0
  · subst h; simp [Addr.add]
  · simp [Addr.add, h]

set_option maxHeartbeats 400000 in
theorem words_any {M G : Nat} {s : MS} {w : World} (h : IsMem w M G s) (hl : s.X.length ≤ 65536) :
    Calls Tryz.prog 16 #[.pointer (some ⟨M, 0, none⟩)] w fun e w' => ∃ R, e = .returned (.slice (some ⟨R, 0, none⟩) s.X.length s.X.length) ∧ IsWords w' R s.X ∧ w.heap.size ≤ R ∧ Below w.heap.size w w' := by
  obtain ⟨i0, hi, hz0, hz1, hz2⟩ := info_parts Tryz.info26
  have c1 := size_any h
  have hsz : (Tryz.prog.info? 26).map (·.size) = some 1 := by rw [hi]; simp [hz1]
  have HM : Hid (IsMem w M G s) := h
  clear h
  generalize hn : s.X.length = n at *
  go_enter Tryz.func16, Tryz.ntmps16
  go_wp2_with (first
    | (go_at_call 45; refine c1.mono ?_; rintro e w' ⟨rfl, rfl⟩)
    | (at_make; refine wpList_make_full _ rfl _ _ 25 rfl w.heap.size 26 i0 (.int .u64 0) 1 Tryz.underlying25 hi hz0 hz1 .i64 .i64 n n n rfl rfl rfl rfl ?c1 ?c2 (Nat.le_refl _) ?_))
  case c1 => rw [hz2]; omega
  case c2 => unfold maxLen; omega
  · intro w1 hown hgrow
    have hr := made_words hown rfl
    have hb := of_grown hgrow
    have hM1 := HM.out.below hb
    have h0 := hM1.c0
    rw [hn] at h0
    have HR : Hid (IsWords w1 w.heap.size (List.replicate n 0)) := hr
    have HB : Hid (Below w.heap.size w w1) := hb
    clear hown hgrow hr hb
    go_wp2_with ((refine wpList_copy_splice rfl (.tmp 9) (.tmp 13) 25 25 rfl 26 Tryz.underlying25 hsz _ _ n n n n rfl rfl w.heap.size 0 (List.replicate n (Value.int .u64 0)) 26 ?d1 (wordsOf s.X).toList ?d2 ?d3 ?d4 ?d5 w.heap.size w HB.out (Nat.le_refl _) ?_))
    case d1 => exact HR.out.trans (by simp [wordsOf])
    case d2 => simp [wordsOf, hn]
    case d3 => first | exact fun _ j v hj => words_cell hM1.row j v hj | exact fun _ => ⟨rfl, _, rfl, fun j v hj => by rw [add_none]; exact words_cell hM1.row _ v (by simpa using hj)⟩
    case d4 => simp [wordsOf, hn]
    case d5 => exact words_one _
    · intro w2 hrow hb2
      have HR2 : Hid (IsWords w2 w.heap.size s.X) := by
        have := hrow.out
        rw [words_splice n s.X hn] at this
        exact this
      clear hrow HR hM1 h0
      go_wp2
      go_ret
      exact ⟨_, rfl, HR2.out, Nat.le_refl _, hb2⟩

set_option maxHeartbeats 400000 in
theorem words_nil (w : World) : Calls Tryz.prog 16 #[.pointer none] w fun e w' => ∃ R, e = .returned (.slice (some ⟨R, 0, none⟩) 0 0) ∧ Below w.heap.size w w' := by
  obtain ⟨i0, hi, hz0, hz1, hz2⟩ := info_parts Tryz.info26
  go_enter Tryz.func16, Tryz.ntmps16
  go_wp2_with (first
    | (go_at_call 45; refine (size_nil _).mono ?_; rintro e w' ⟨rfl, rfl⟩)
    | (at_make; refine wpList_make_full _ rfl _ _ 25 rfl w.heap.size 26 i0 (.int .u64 0) 1 Tryz.underlying25 hi hz0 hz1 .i64 .i64 0 0 0 rfl rfl rfl rfl ?c1 ?c2 (Nat.le_refl _) ?_))
  case c1 => omega
  case c2 => omega
  · intro w1 hown hgrow
    have hb := of_grown hgrow
    clear hown hgrow
    go_wp2
    go_ret
    exact ⟨_, rfl, hb⟩

/-! Of -/
theorem mem_setRow {w : World} {M G : Nat} {s : MS} (h : IsMem w M G s) (X : List Nat) (cs : Array Value) (hcs : cs = wordsOf X) (hl : X.length = s.X.length) (hX : ∀ x ∈ X, x < 18446744073709551616) : IsMem (w.setRow G cs) M G { s with X := X } := by
  refine ⟨?_, ?_, h.ne, hX⟩
  · rw [setRow_other w G M cs h.ne]; simpa [hl] using h.head
  · rw [setRow_heap w G _ cs 26 _ h.row, hcs]

set_option maxHeartbeats 400000 in
theorem of_any {R : Nat} {X : List Nat} {w : World} (h : IsWords w R X) (hX : ∀ x ∈ X, x < 18446744073709551616) (hl : X.length ≤ 65536) :
    Calls Tryz.prog 12 #[.slice (some ⟨R, 0, none⟩) X.length X.length] w fun e w' => ∃ M G, e = .returned (.pointer (some ⟨M, 0, none⟩)) ∧ IsMem w' M G (zeroMS X) ∧ w.heap.size ≤ M ∧ w.heap.size ≤ G ∧ Below w.heap.size w w' := by
  have hsz : (Tryz.prog.info? 26).map (·.size) = some 1 := by obtain ⟨i0, hi, hz0, hz1, hz2⟩ := info_parts Tryz.info26; rw [hi]; simp [hz1]
  have c1 := new_any X.length hl w
  have HX : Hid (IsWords w R X) := h
  clear h
  generalize hn : X.length = n at *
  go_enter Tryz.func12, Tryz.ntmps12
  go_wp2_with (first
    | (go_at_call 42; refine c1.mono ?_; rintro e w1 ⟨M, G, rfl, hm, hM, hG, hb⟩; have h0 : w1.cell? ⟨M, 0, none⟩ = some (.slice (some ⟨G, 0, none⟩) n n) := by simpa [zeroMS] using hm.c0)
    | (refine wpList_copy_own rfl (.tmp 12) (.tmp 13) 25 25 rfl 26 Tryz.underlying25 hsz G 0 n n ⟨R, 0, none⟩ n n rfl rfl (wordsOf (List.replicate n 0)) 26 ?d1 (wordsOf X).toList ?d2 ?d3 ?d4 ?d5 ?_))
  case d1 => exact hm.row
  case d2 => simp [wordsOf, hn]
  case d3 =>
    intro j v hj
    rw [add_none, Nat.zero_add, hb.cell (lt_of_block (show w.heap[R]? = _ from HX.out))]
    exact words_cell HX.out j v (by simpa using hj)
  case d4 => simp [wordsOf, hn]
  case d5 => exact words_one _
  · go_wp2
    go_ret
    refine ⟨M, G, rfl, mem_setRow hm X _ ?_ (by simp [zeroMS, hn]) hX, hM, hG, below_setRow hb hG _⟩
    simp [wordsOf, hn]

/-! Copy -/
theorem copy_mem {w w1 : World} {M G R : Nat} {s : MS} (h : IsMem w M G s) (hr : IsWords w1 R s.X) (hb : Below w.heap.size w w1) (o : Obj)
    (ho : o = .cells #[.slice (some ⟨R, 0, none⟩) s.X.length s.X.length, .int .i64 s.t, .int .i64 s.k, .int .i64 s.a, .int .u64 s.p, .int .u64 s.q] 77 (0, 0)) :
    IsMem (w1.alloc o) w1.heap.size R s ∧ Below w.heap.size w (w1.alloc o) := by
  have hlt : R < w1.heap.size := lt_of_block hr
  refine ⟨⟨?_, ?_, by omega, h.fits⟩, hb.alloc hb.size o⟩
  · rw [heap_new, ho]
  · rw [Below.heap_alloc _ _ _ hlt]; exact hr

end Go.Proofs.YtcioomopgdhlmaaGreatDoor.Mm
