/- A client's table as it lies in the heap, and which blocks may turn: no walk in sight. -/
import Derived.Test.YtnegdabcjnhpdaaMHeap
import Derived.Test.YtnegdabcjnhpdaaPPlaces
import Derived.Test.YtnegdabcjnhpdaaTHand
import Derived.Deep.RegionHeld
import Derived.Deep.OwnRows
namespace Go.Proofs.Ytnegdabcjnhpdaa
open Go.RowKit
open Mm (Only wordsOf)

theorem block_stored {w : World} {R i b : Nat} (v : Value) (hb : b < w.heap.size) (hne : b ≠ R) : (w.setCell ⟨R, i, none⟩ v).heap[b]? = w.heap[b]? :=
  ((Only.refl R R w).setCell (.inl rfl) v).block b hb hne hne
theorem cfg_stored {w : World} {Bc R i : Nat} {s a c d g k : Int} (h : IsCfg w Bc s a c d g k) (hne : Bc ≠ R) (v : Value) : IsCfg (w.setCell ⟨R, i, none⟩ v) Bc s a c d g k := by
  show (w.setCell _ _).heap[Bc]? = _
  rw [block_stored v h.lt hne]; exact h
theorem new_obj (w : World) (o : Obj) : (w.alloc o).heap[w.heap.size]? = some o := (MapKept.heap_alloc w o).1
/-- Some blocks alone have changed; there may be new ones. -/
structure Chg (L : List Nat) (w w' : World) : Prop where
  os : w'.os = w.os
  tape : w'.tape = w.tape
  output : w'.output = w.output
  size : w.heap.size ≤ w'.heap.size
  block : ∀ i, i < w.heap.size → i ∉ L → w'.heap[i]? = w.heap[i]?

theorem Chg.refl (L : List Nat) (w : World) : Chg L w w := ⟨rfl, rfl, rfl, Nat.le_refl _, fun _ _ _ => rfl⟩
theorem Chg.trans {L : List Nat} {a b c : World} (h : Chg L a b) (k : Chg L b c) : Chg L a c :=
  ⟨k.os.trans h.os, k.tape.trans h.tape, k.output.trans h.output, Nat.le_trans h.size k.size, fun i hi hn => (k.block i (Nat.lt_of_lt_of_le hi h.size) hn).trans (h.block i hi hn)⟩
/-- Blocks that are newer than the first world may be left out. -/
theorem Chg.mono {L L' : List Nat} {a b : World} (h : Chg L a b) (hs : ∀ i ∈ L, i ∈ L' ∨ a.heap.size ≤ i) : Chg L' a b :=
  ⟨h.os, h.tape, h.output, h.size, fun i hi hn => h.block i hi fun hm => by rcases hs i hm with h1 | h1 <;> first | exact hn h1 | omega⟩
theorem Chg.of_only {L : List Nat} {M G : Nat} {w w' : World} (h : Only M G w w') (hM : M ∈ L) (hG : G ∈ L) : Chg L w w' :=
  ⟨h.os, h.tape, h.output, h.size, fun i hi hn => h.block i hi (fun e => hn (e ▸ hM)) (fun e => hn (e ▸ hG))⟩
theorem Chg.of_below {L : List Nat} {w w' : World} (h : Below w.heap.size w w') : Chg L w w' := ⟨h.os, h.tape, h.output, h.size, fun i hi _ => h.block i hi⟩
theorem Chg.setCell {L : List Nat} {a w : World} (h : Chg L a w) {b o : Nat} (hb : b ∈ L ∨ a.heap.size ≤ b) (v : Value) : Chg L a (w.setCell ⟨b, o, none⟩ v) :=
  ⟨h.os, h.tape, h.output, by simpa [World.setCell] using h.size, fun i hi hn => (Below.heap_setCell _ _ _ _ (by show i ≠ b; intro e; subst e; rcases hb with h1 | h1 <;> first | exact hn h1 | omega)).trans (h.block i hi hn)⟩
theorem Chg.alloc {L : List Nat} {a w : World} (h : Chg L a w) (o : Obj) : Chg L a (w.alloc o) := h.trans (Chg.of_below (alloc_below w o))
theorem Chg.below {L : List Nat} {B : Nat} {w0 w w' : World} (h : Chg L w w') (h0 : Below B w0 w) (hL : ∀ i ∈ L, B ≤ i) (hB : B ≤ w0.heap.size) : Below B w0 w' :=
  h0.trans ⟨h.os, h.tape, h.output, h.size, fun i hi => h.block i (Nat.lt_of_lt_of_le hi (Nat.le_trans hB h0.size)) fun hm => by have := hL i hm; omega⟩
theorem Chg.then_below {L : List Nat} {a b c : World} (h : Chg L a b) (k : Below b.heap.size b c) : Chg L a c := h.trans (Chg.of_below k)
theorem Chg.at {L : List Nat} {w w' : World} (h : Chg L w w') {i : Nat} {o : Obj} (ho : w.heap[i]? = some o) (hn : i ∉ L) : w'.heap[i]? = some o := (h.block i (lt_of_block ho) hn).trans ho
theorem IsCfg.chg {L : List Nat} {w w' : World} {B : Nat} {s a c d g k : Int} (h : IsCfg w B s a c d g k) (x : Chg L w w') (h1 : B ∉ L) : IsCfg w' B s a c d g k := x.at h h1


/-- An entry: its tag, and the slot that it holds, or -1; and its word. -/
abbrev En := Nat × Int
def enW (x : En) : Nat := (x.2 + 1).toNat + x.1 * 4294967296
structure EnOk (x : En) : Prop where
  t : x.1 < 4294967296
  s : -1 ≤ x.2 ∧ x.2 ≤ 63
theorem EnOk.lt {x : En} (h : EnOk x) : enW x < 18446744073709551616 := by have := h.t; have := h.s; unfold enW; omega
theorem EnOk.div {x : En} (h : EnOk x) : enW x / 4294967296 = x.1 := by have := h.t; have := h.s; unfold enW; omega
theorem EnOk.mod {x : En} (h : EnOk x) : ((enW x % 4294967296 : Nat) : Int) - 1 = x.2 := by have := h.t; have := h.s; unfold enW; omega
theorem EnOk.top {x : En} (h : EnOk x) : Tg.topW 32 x.1 x.2 = enW x ∧ Tg.topOk 32 x.1 x.2 = true := by
  have h1 := Tg.topW_yes (k := 32) (t := x.1) (s := x.2) (Tg.isS1_iff.2 h.s) (by have := h.t; omega)
  refine ⟨h1.1.trans ?_, h1.2⟩
  unfold enW
  rfl

/-- What a table is: its config's numbers, its client, its entries. -/
structure Tb where
  s : Int
  a : Int
  c : Int
  d : Int
  g : Int
  k : Int
  who : Int
  A : List En
structure Tb.Ok (t : Tb) : Prop where
  r : rightB t.s t.a t.c t.d t.g t.k = true
  who : be t.who t.c = true
  len : (t.A.length : Int) = t.d
  en : ∀ x ∈ t.A, EnOk x
theorem Tb.Ok.d16 {t : Tb} (h : t.Ok) : 1 ≤ t.A.length ∧ t.A.length ≤ 16 := by
  have := (rightB_iff.1 h.r); have := h.len; omega
theorem Tb.Ok.w8 {t : Tb} (h : t.Ok) : 0 ≤ t.who ∧ t.who ≤ 7 := by
  have := (rightB_iff.1 h.r); have := be_iff.1 h.who; omega
theorem Tb.Ok.at {t : Tb} (h : t.Ok) {i : Nat} (hi : i < t.A.length) : EnOk (t.A.getD i (0, 0)) := by
  have e : t.A.getD i (0, 0) = t.A[i] := by simp [List.getD, hi]
  rw [e]; exact h.en _ (List.getElem_mem hi)

def enWs (A : List En) : Array Value := wordsOf (A.map enW)

structure IsTab (w : World) (P R : Nat) (t : Tb) : Prop where
  head : w.heap[P]? = some (.cells #[.int .i64 t.s, .int .i64 t.a, .int .i64 t.c, .int .i64 t.d, .int .i64 t.g, .int .i64 t.k, .int .i64 t.who, .slice (some ⟨R, 0, none⟩) t.A.length t.A.length] 48 (0, 0))
  row : w.heap[R]? = some (.cells (enWs t.A) 24 (0, 0))
  ne : P ≠ R
  ok : t.Ok
theorem IsTab.P_lt {w : World} {P R : Nat} {t : Tb} (h : IsTab w P R t) : P < w.heap.size := lt_of_block h.head
theorem IsTab.R_lt {w : World} {P R : Nat} {t : Tb} (h : IsTab w P R t) : R < w.heap.size := lt_of_block h.row
theorem IsTab.chg {L : List Nat} {w w' : World} {P R : Nat} {t : Tb} (h : IsTab w P R t) (k : Chg L w w') (h1 : P ∉ L) (h2 : R ∉ L) : IsTab w' P R t := ⟨k.at h.head h1, k.at h.row h2, h.ne, h.ok⟩
theorem IsTab.below {w w' : World} {P R : Nat} {t : Tb} (h : IsTab w P R t) (b : Below w.heap.size w w') : IsTab w' P R t := h.chg (L := []) (Chg.of_below b) (by simp) (by simp)
theorem IsTab.cells {w : World} {P R : Nat} {t : Tb} (h : IsTab w P R t) : w.cell? ⟨P, 0, none⟩ = some (.int .i64 t.s) ∧ w.cell? ⟨P, 1, none⟩ = some (.int .i64 t.a) ∧ w.cell? ⟨P, 2, none⟩ = some (.int .i64 t.c) ∧ w.cell? ⟨P, 3, none⟩ = some (.int .i64 t.d) ∧ w.cell? ⟨P, 4, none⟩ = some (.int .i64 t.g) ∧ w.cell? ⟨P, 5, none⟩ = some (.int .i64 t.k) ∧ w.cell? ⟨P, 6, none⟩ = some (.int .i64 t.who) ∧ w.cell? ⟨P, 7, none⟩ = some (.slice (some ⟨R, 0, none⟩) t.A.length t.A.length) := by
  have h' := h.head
  simp [World.cell?, h']
theorem IsTab.word {w : World} {P R : Nat} {t : Tb} (h : IsTab w P R t) {i : Nat} (hi : i < t.A.length) : w.cell? ⟨R, i, none⟩ = some (.int .u64 (enW (t.A.getD i (0, 0)) : Nat)) := by
  simp [World.cell?, h.row, enWs, wordsOf, hi]
theorem IsTab.free {w : World} {P R : Nat} {t : Tb} (h : IsTab w P R t) (i : Nat) : w.frozen? ⟨R, i, none⟩ = false := by
  have h' := h.row
  simp [World.frozen?, h']

def Tb.put (t : Tb) (i : Nat) (x : En) : Tb := { t with A := t.A.set i x }
theorem IsTab.put {w : World} {P R : Nat} {t : Tb} (h : IsTab w P R t) (i : Nat) {x : En} (hx : EnOk x) : IsTab (w.setCell ⟨R, i, none⟩ (.int .u64 (enW x : Nat))) P R (t.put i x) := by
  refine ⟨?_, ?_, h.ne, ⟨h.ok.r, h.ok.who, ?_, ?_⟩⟩
  · rw [block_stored _ h.P_lt h.ne]
    simp only [Tb.put, List.length_set]
    exact h.head
  · rw [Mm.heap_setCell_at h.row]
    simp [Tb.put, enWs, wordsOf, List.map_set]
  · simp only [Tb.put, List.length_set]; exact h.ok.len
  · intro y hy
    simp only [Tb.put] at hy
    rcases List.mem_or_eq_of_mem_set hy with h1 | rfl
    · exact h.ok.en _ h1
    · exact hx

/-- Whether an entry may hold something; the first one that may. -/
def frE (x : En) : Bool := decide (x.2 = -1) && decide (x.1 < 4294967295)
def ff : List En → Option Nat
  | [] => none
  | x :: l => if frE x then some 0 else (ff l).map (· + 1)
def ffI (A : List En) : Int := match ff A with
  | some i => (i : Int)
  | none => -1
def heldE (A : List En) : Nat := (A.filter fun x => decide (x.2 ≠ -1)).length
theorem ff_lt {A : List En} {i : Nat} (h : ff A = some i) : i < A.length := by
  induction A generalizing i with
  | nil => simp [ff] at h
  | cons x l ih =>
    unfold ff at h
    split at h
    · cases h; simp
    · cases e : ff l with
      | none => rw [e] at h; simp at h
      | some j => rw [e] at h; simp at h; have := ih e; simp; omega
theorem ff_at {A : List En} {i : Nat} (h : ff A = some i) : frE (A.getD i (0, 0)) = true := by
  induction A generalizing i with
  | nil => simp [ff] at h
  | cons x l ih =>
    unfold ff at h
    split at h
    · rename_i hx; cases h; simpa using hx
    · cases e : ff l with
      | none => rw [e] at h; simp at h
      | some j => rw [e] at h; simp at h; subst h; simpa using ih e
theorem ff_before {A : List En} {i : Nat} (h : ff A = some i) {j : Nat} (hj : j < i) : frE (A.getD j (0, 0)) = false := by
  induction A generalizing i j with
  | nil => simp [ff] at h
  | cons x l ih =>
    unfold ff at h
    split at h
    · cases h; omega
    · rename_i hx
      cases e : ff l with
      | none => rw [e] at h; simp at h
      | some k =>
        rw [e] at h; simp at h; subst h
        cases j with
        | zero => simpa using hx
        | succ j => simpa using ih e (by omega)
theorem ff_none {A : List En} (h : ff A = none) {j : Nat} (hj : j < A.length) : frE (A.getD j (0, 0)) = false := by
  induction A generalizing j with
  | nil => simp at hj
  | cons x l ih =>
    unfold ff at h
    split at h
    · cases h
    · rename_i hx
      have e : ff l = none := by simpa using h
      cases j with
      | zero => simpa using hx
      | succ j => simpa using ih e (by simpa using hj)
/-- Where the first one is, told by its neighbours. -/
theorem ff_is {A : List En} {i : Nat} (hi : i < A.length) (h : frE (A.getD i (0, 0)) = true) (hb : ∀ j, j < i → frE (A.getD j (0, 0)) = false) : ff A = some i := by
  cases e : ff A with
  | none => rw [ff_none e hi] at h; cases h
  | some k =>
    rcases Nat.lt_trichotomy k i with h1 | rfl | h1
    · have := ff_at e; rw [hb k h1] at this; cases this
    · rfl
    · have := ff_before e h1; rw [this] at h; cases h
theorem ff_nil {A : List En} (hb : ∀ j, j < A.length → frE (A.getD j (0, 0)) = false) : ff A = none := by
  cases e : ff A with
  | none => rfl
  | some k => have := ff_at e; rw [hb k (ff_lt e)] at this; cases this

theorem held_take (A : List En) (k : Nat) (hk : k < A.length) : heldE (A.take (k + 1)) = heldE (A.take k) + (if (A.getD k (0, 0)).2 ≠ -1 then 1 else 0) := by
  unfold heldE
  rw [List.take_succ_eq_append_getElem hk, List.filter_append, List.length_append]
  congr 1
  have e : A.getD k (0, 0) = A[k] := by simp [List.getD, hk]
  rw [e]
  by_cases h : A[k].2 = -1 <;> simp [h]
theorem held_le (A : List En) (k : Nat) : heldE (A.take k) ≤ k := by
  unfold heldE
  exact Nat.le_trans (List.length_filter_le _ _) (List.length_take_le _ _)
end Go.Proofs.Ytnegdabcjnhpdaa
