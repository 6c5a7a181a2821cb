/- A book of points as it lies in the heap, and which blocks a step may turn: no walk in sight. -/
import Derived.Test.YtnegdabcjnhpdaaGreatDoorDSem
import Derived.Test.YtnegdabcjnhpdaaGreatDoorPBody
import Derived.Maps.OwnSet
namespace Go.Proofs.YtnegdabcjnhpdaaGreatDoor
open Go.RowKit
open Mm (IsMem MS touched Only)
open Hh (WT)
open Go.Maps (Keyed)

/-- Some blocks alone have changed, and maps from a block on; there may be new ones. -/
structure Cm (lo : Nat) (L : List Nat) (w w' : World) : Prop where
  os : w'.os = w.os
  tape : w'.tape = w.tape
  output : w'.output = w.output
  size : w.heap.size ≤ w'.heap.size
  block : ∀ i, i < w.heap.size → i ∉ L → (lo ≤ i → ∀ es c, w.heap[i]? ≠ some (.map es c)) → w'.heap[i]? = w.heap[i]?
theorem Cm.refl (lo : Nat) (L : List Nat) (w : World) : Cm lo L w w := ⟨rfl, rfl, rfl, Nat.le_refl _, fun _ _ _ _ => rfl⟩
theorem Cm.trans {lo : Nat} {L : List Nat} {a b c : World} (h : Cm lo L a b) (k : Cm lo L b c) : Cm lo L a c :=
  ⟨k.os.trans h.os, k.tape.trans h.tape, k.output.trans h.output, Nat.le_trans h.size k.size, fun i hi hn hm => by
    have e := h.block i hi hn hm
    rw [k.block i (Nat.lt_of_lt_of_le hi h.size) hn (fun hl es c => by rw [e]; exact hm hl es c), e]⟩
theorem Cm.of_chg {lo : Nat} {L : List Nat} {w w' : World} (h : Chg L w w') : Cm lo L w w' := ⟨h.os, h.tape, h.output, h.size, fun i hi hn _ => h.block i hi hn⟩
theorem Cm.of_below {lo : Nat} {L : List Nat} {w w' : World} (h : Below w.heap.size w w') : Cm lo L w w' := Cm.of_chg (Chg.of_below h)
theorem Cm.then_below {lo : Nat} {L : List Nat} {a b c : World} (h : Cm lo L a b) (k : Below b.heap.size b c) : Cm lo L a c := h.trans (Cm.of_below k)
theorem Cm.mono {lo : Nat} {L L' : List Nat} {a b : World} (h : Cm lo L a b) (hs : ∀ i ∈ L, i ∈ L' ∨ a.heap.size ≤ i) : Cm lo L' a b :=
  ⟨h.os, h.tape, h.output, h.size, fun i hi hn hm => h.block i hi (fun hx => by rcases hs i hx with h1 | h1 <;> first | exact hn h1 | omega) hm⟩
theorem Cm.at {lo : Nat} {L : List Nat} {w w' : World} (h : Cm lo L w w') {i : Nat} {c : Array Value} {t : TypeId} {f : Nat × Nat} (ho : w.heap[i]? = some (.cells c t f)) (hn : i ∉ L) : w'.heap[i]? = some (.cells c t f) :=
  (h.block i (lt_of_block ho) hn (fun _ es c' => by rw [ho]; simp)).trans ho
theorem Cm.below {lo : Nat} {L : List Nat} {B : Nat} {w0 w w' : World} (h : Cm lo L w w') (h0 : Below B w0 w) (hL : ∀ i ∈ L, B ≤ i) (hlo : B ≤ lo) (hB : B ≤ w0.heap.size) : Below B w0 w' :=
  h0.trans ⟨h.os, h.tape, h.output, h.size, fun i hi => h.block i (Nat.lt_of_lt_of_le hi (Nat.le_trans hB h0.size)) (fun hm => by have := hL i hm; omega) (fun hl => by omega)⟩
theorem Cm.setCell {lo : Nat} {L : List Nat} {a w : World} (h : Cm lo L a w) {b o : Nat} (hb : b ∈ L) (v : Value) : Cm lo L a (w.setCell ⟨b, o, none⟩ v) :=
  h.trans (Cm.of_chg ((Chg.refl L w).setCell (.inl hb) v))
theorem WT.cm {lo : Nat} {L : List Nat} {w w' : World} (h : WT w) (c : Cm lo L w w') (hn : 0 ∉ L) (hlo : 1 ≤ lo) : WT w' :=
  fun i hi => (World.cell?_of_block (w := w) (w' := w') (a := ⟨0, i, none⟩) (c.block 0 h.lt hn (fun hl => by omega))).trans (h i hi)
theorem MemX.cm {lo : Nat} {L : List Nat} {w w' : World} {M G : Nat} {X : List Nat} {T : Int} (h : MemX w M G X T) (c : Cm lo L w w') (h1 : M ∉ L) (h2 : G ∉ L) : MemX w' M G X T := by
  obtain ⟨m, h3, h4⟩ := h
  exact ⟨m, ⟨c.at h3.head h1, c.at h3.row h2, h3.ne, h3.fits⟩, h4⟩
theorem IsShd.cm {lo : Nat} {L : List Nat} {w w' : World} {P : Nat} {gw : Bool} {hd : Int} {e : Nat} {pc : Int} {was nw : Nat} (h : IsShd w P gw hd e pc was nw) (c : Cm lo L w w') (hn : P ∉ L) : IsShd w' P gw hd e pc was nw := c.at h hn
theorem IsCfg.cm {lo : Nat} {L : List Nat} {w w' : World} {B : Nat} {s a c d g k : Int} (h : IsCfg w B s a c d g k) (x : Cm lo L w w') (hn : B ∉ L) : IsCfg w' B s a c d g k := x.at h hn

/-! Points that are noted. -/
theorem lawI : Keyed Tryz.prog 3 := Maps.int_keyed Tryz.underlying3
theorem lawU : Keyed Tryz.prog 38 := Maps.int_keyed Tryz.underlying38
theorem zero3 (w : World) : (zeroValue 3).run Tryz.prog w = .ok (.int .i64 0) w := by kernel_rfl
def upd (f : Int → Option Int) (k v : Int) : Int → Option Int := fun x => if x = k then some v else f x

def Pts (kt : TypeId) (q : IntKind) (w : World) (lo : Nat) (m : Value) (n : Nat) (f : Int → Option Int) : Prop :=
  (m = .map none ∧ ∀ k, f k = none) ∨ ∃ b D, m = .map (some b) ∧ lo ≤ b ∧ w.ownsMap (H := Unit) Tryz.prog kt (plainElem Tryz.prog 3) b n D ∧
    ∀ k, (Lit.int q k).wf = true → (Maps.has D (.int q k) = (f k).isSome ∧ D.atKey (.int q k) (.lit (.int .i64 0)) = .lit (.int .i64 ((f k).getD 0)))

theorem wf0 : (Lit.int .i64 0).wf = true := by decide
theorem Pts.look {kt t : TypeId} {q : IntKind} {w : World} {lo : Nat} {m : Value} {n : Nat} {f : Int → Option Int} (h : Pts kt q w lo m n f) (hk : Tryz.prog.underlying kt = some (.int q)) (ht : Tryz.prog.underlying t = some (.map kt 3)) (k : Int) (hw : (Lit.int q k).wf = true) :
    (Instr.lookup t m (.int q k) true).run Tryz.prog w = .ok (.tuple #[.int .i64 ((f k).getD 0), .bool (f k).isSome]) w := by
  have K : Keyed Tryz.prog kt := Maps.int_keyed hk
  have hkey := Maps.keyOf_int_mk hk hw
  rcases h with ⟨rfl, hf⟩ | ⟨b, D, rfl, _, hown, hD⟩
  · have e := Maps.look_nil (P := Tryz.prog) (w := w) true K ht (zero3 w) hkey
    rw [e, hf k, if_pos rfl, Option.getD_none, Option.isSome_none]
  · obtain ⟨v, ps, hrun, hv⟩ := hown.look_ok K ht (zero3 w) (plainElem_int Tryz.underlying3 wf0) hkey
    obtain ⟨c, rfl, hc, _⟩ := plainElem_int_inv Tryz.underlying3 hv
    obtain ⟨h1, h2⟩ := hD k hw
    rw [hrun, h1]
    have e := congrArg Prod.fst hc
    rw [h2] at e
    have e2 : (f k).getD 0 = c := by simpa using e
    rw [e2]

theorem Pts.cm {kt : TypeId} {q : IntKind} {w w' : World} {lo : Nat} {m : Value} {n : Nat} {f : Int → Option Int} (h : Pts kt q w lo m n f) (hb : ∀ b, m = .map (some b) → w'.heap[b]? = w.heap[b]?) : Pts kt q w' lo m n f := by
  rcases h with h | ⟨b, D, h1, h2, ⟨es, c, h3, h4⟩, h5⟩
  · exact .inl h
  · exact .inr ⟨b, D, h1, h2, ⟨es, c, (hb b h1).trans h3, h4⟩, h5⟩
theorem Pts.mono {kt : TypeId} {q : IntKind} {w : World} {lo : Nat} {m : Value} {n n' : Nat} {f : Int → Option Int} (h : Pts kt q w lo m n f) (hn : n ≤ n') : Pts kt q w lo m n' f := by
  rcases h with h | ⟨b, D, h1, h2, h3, h5⟩
  · exact .inl h
  · exact .inr ⟨b, D, h1, h2, h3.mono hn, h5⟩
theorem Pts.block {kt : TypeId} {q : IntKind} {w : World} {lo : Nat} {m : Value} {n : Nat} {f : Int → Option Int} (h : Pts kt q w lo m n f) {b : Nat} (hm : m = .map (some b)) : lo ≤ b ∧ ∃ es c, w.heap[b]? = some (.map es c) := by
  rcases h with ⟨h1, _⟩ | ⟨b', D, h1, h2, ⟨es, c, h3, _⟩, _⟩
  · rw [h1] at hm; cases hm
  · rw [h1] at hm; cases hm; exact ⟨h2, es, c, h3⟩

/-- What a book notes. -/
structure Bk where
  now : Int
  born : Int → Option Int
  turned : Int → Option Int
structure IsBook (w : World) (lo B n : Nat) (k : Bk) (mb mt : Value) : Prop where
  head : w.heap[B]? = some (.cells #[.int .i64 k.now, mb, mt] 43 (0, 0))
  pb : Pts 3 .i64 w lo mb n k.born
  pt : Pts 38 .u64 w lo mt n k.turned
  ap : ∀ b, mb = .map (some b) → mt ≠ .map (some b)
def HasBook (w : World) (lo B n : Nat) (k : Bk) : Prop := ∃ mb mt, IsBook w lo B n k mb mt
theorem IsBook.cells {w : World} {lo B n : Nat} {k : Bk} {mb mt : Value} (h : IsBook w lo B n k mb mt) : w.cell? ⟨B, 0, none⟩ = some (.int .i64 k.now) ∧ w.cell? ⟨B, 1, none⟩ = some mb ∧ w.cell? ⟨B, 2, none⟩ = some mt := by
  have h' := h.head
  simp [World.cell?, h']
theorem IsBook.free {w : World} {lo B n : Nat} {k : Bk} {mb mt : Value} (h : IsBook w lo B n k mb mt) (i : Nat) : w.frozen? ⟨B, i, none⟩ = false := by
  have h' := h.head
  simp [World.frozen?, h']
theorem IsBook.lt {w : World} {lo B n : Nat} {k : Bk} {mb mt : Value} (h : IsBook w lo B n k mb mt) : B < w.heap.size := lt_of_block h.head
theorem IsBook.mono {w : World} {lo B n n' : Nat} {k : Bk} {mb mt : Value} (h : IsBook w lo B n k mb mt) (hn : n ≤ n') : IsBook w lo B n' k mb mt := ⟨h.head, h.pb.mono hn, h.pt.mono hn, h.ap⟩
/-- The book stays while other blocks of cells are written. -/
theorem IsBook.chg {L : List Nat} {w w' : World} {lo B n : Nat} {k : Bk} {mb mt : Value} (h : IsBook w lo B n k mb mt) (c : Chg L w w') (hB : B ∉ L) (hL : ∀ i ∈ L, (w.heap.size ≤ i ∨ ∃ c t f, w.heap[i]? = some (.cells c t f))) : IsBook w' lo B n k mb mt := by
  have hne : ∀ b es c, w.heap[b]? = some (.map es c) → b ∉ L := fun b es c hb hx => by
    rcases hL b hx with h1 | ⟨c, t, f, h1⟩
    · have := lt_of_block hb; omega
    · rw [hb] at h1; cases h1
  refine ⟨c.at h.head hB, h.pb.cm fun b hm => ?_, h.pt.cm fun b hm => ?_, h.ap⟩
  · obtain ⟨_, es, c', hb⟩ := h.pb.block hm
    exact c.block b (lt_of_block hb) (hne b es c' hb)
  · obtain ⟨_, es, c', hb⟩ := h.pt.block hm
    exact c.block b (lt_of_block hb) (hne b es c' hb)
theorem IsBook.below {w w' : World} {lo B n : Nat} {k : Bk} {mb mt : Value} (h : IsBook w lo B n k mb mt) (b : Below w.heap.size w w') : IsBook w' lo B n k mb mt := h.chg (L := []) (Chg.of_below b) (by simp) (by simp)
end Go.Proofs.YtnegdabcjnhpdaaGreatDoor
/- Contracts of package field's Book. -/
namespace Go.Proofs.YtnegdabcjnhpdaaGreatDoor
open Go.RowKit
open Mm (IsMem MS touched Only)
open Hh (WT)
open Go.Maps (Keyed)

def optI (o : Option Int) : Int := o.getD (-1)

set_option maxHeartbeats 400000 in
theorem noted_I {w : World} {lo n : Nat} {m : Value} {f : Int → Option Int} (h : Pts 3 .i64 w lo m n f) (k : Int) (hk : (Lit.int .i64 k).wf = true) : Calls Tryz.prog 28 #[m, .int .i64 k] w fun e w' => e = .returned (.int .i64 (optI (f k))) ∧ w = w' := by
  have hl := h.look Tryz.underlying3 Tryz.underlying40 k hk
  clear h
  cases hf : f k with
  | none =>
    rw [hf] at hl
    simp only [Option.getD_none, Option.isSome_none] at hl
    go_enter Tryz.func28, Tryz.ntmps28
    go_wp2
    go_ret
    exact ⟨rfl, rfl⟩
  | some p =>
    rw [hf] at hl
    simp only [Option.getD_some, Option.isSome_some] at hl
    go_enter Tryz.func28, Tryz.ntmps28
    go_wp2
    go_ret
    exact ⟨rfl, rfl⟩
set_option maxHeartbeats 400000 in
theorem noted_U {w : World} {lo n : Nat} {m : Value} {f : Int → Option Int} (h : Pts 38 .u64 w lo m n f) (k : Int) (hk : (Lit.int .u64 k).wf = true) : Calls Tryz.prog 66 #[m, .int .u64 k] w fun e w' => e = .returned (.int .i64 (optI (f k))) ∧ w = w' := by
  have hl := h.look Tryz.underlying38 Tryz.underlying41 k hk
  clear h
  cases hf : f k with
  | none =>
    rw [hf] at hl
    simp only [Option.getD_none, Option.isSome_none] at hl
    go_enter Tryz.func66, Tryz.ntmps66
    go_wp2
    go_ret
    exact ⟨rfl, rfl⟩
  | some p =>
    rw [hf] at hl
    simp only [Option.getD_some, Option.isSome_some] at hl
    go_enter Tryz.func66, Tryz.ntmps66
    go_wp2
    go_ret
    exact ⟨rfl, rfl⟩

set_option maxHeartbeats 400000 in
theorem born_any {w : World} {lo B n : Nat} {k : Bk} {mb mt : Value} (h : IsBook w lo B n k mb mt) (r : Int) (hr : (Lit.int .i64 r).wf = true) : Calls Tryz.prog 12 #[.pointer (some ⟨B, 0, none⟩), .int .i64 r] w fun e w' => e = .returned (.int .i64 (optI (k.born r))) ∧ w = w' := by
  have c := noted_I h.pb r hr
  obtain ⟨l0, l1, l2⟩ := h.cells
  go_enter Tryz.func12, Tryz.ntmps12
  go_wp2_with (go_at_call 28; refine c.mono ?_; rintro e w1 ⟨rfl, rfl⟩)
  go_ret
  exact ⟨rfl, rfl⟩
theorem born_nil (r : Int) (w : World) : Calls Tryz.prog 12 #[.pointer none, .int .i64 r] w fun e w' => e = .returned (.int .i64 (-1)) ∧ w = w' := by
  go_enter Tryz.func12, Tryz.ntmps12
  go_wp2
  go_ret
  exact ⟨rfl, rfl⟩
set_option maxHeartbeats 400000 in
theorem turned_any {w : World} {lo B n : Nat} {k : Bk} {mb mt : Value} (h : IsBook w lo B n k mb mt) (r : Int) (hr : (Lit.int .u64 r).wf = true) : Calls Tryz.prog 44 #[.pointer (some ⟨B, 0, none⟩), .int .u64 r] w fun e w' => e = .returned (.int .i64 (optI (k.turned r))) ∧ w = w' := by
  have c := noted_U h.pt r hr
  obtain ⟨l0, l1, l2⟩ := h.cells
  go_enter Tryz.func44, Tryz.ntmps44
  go_wp2_with (go_at_call 66; refine c.mono ?_; rintro e w1 ⟨rfl, rfl⟩)
  go_ret
  exact ⟨rfl, rfl⟩
theorem turned_nil (r : Int) (w : World) : Calls Tryz.prog 44 #[.pointer none, .int .u64 r] w fun e w' => e = .returned (.int .i64 (-1)) ∧ w = w' := by
  go_enter Tryz.func44, Tryz.ntmps44
  go_wp2
  go_ret
  exact ⟨rfl, rfl⟩

def bk0 : Bk := ⟨0, fun _ => none, fun _ => none⟩
set_option maxHeartbeats 400000 in
theorem newBook_any (w : World) (lo : Nat) : Calls Tryz.prog 19 #[] w fun e w' => ∃ B, e = .returned (.pointer (some ⟨B, 0, none⟩)) ∧ IsBook w' lo B 0 bk0 (.map none) (.map none) ∧ w.heap.size ≤ B ∧ Below w.heap.size w w' := by
  go_enter Tryz.func19, Tryz.ntmps19
  go_wp2
  go_ret
  exact ⟨_, rfl, ⟨new_obj _ _, .inl ⟨rfl, fun _ => rfl⟩, .inl ⟨rfl, fun _ => rfl⟩, fun b h => by cases h⟩, Nat.le_refl _, alloc_below _ _⟩

/-! Noting. -/
theorem Pts.put {kt : TypeId} {q : IntKind} {w : World} {lo : Nat} {b n : Nat} {D : DataW Unit} {f : Int → Option Int} (hlo : lo ≤ b) {k v : Int} (hD : ∀ k, (Lit.int q k).wf = true → (Maps.has D (.int q k) = (f k).isSome ∧ D.atKey (.int q k) (.lit (.int .i64 0)) = .lit (.int .i64 ((f k).getD 0)))) (hm : Maps.IsMap D)
    (hown : w.ownsMap (H := Unit) Tryz.prog kt (plainElem Tryz.prog 3) b n (D.put (.int q k) (.lit (.int .i64 v)))) : Pts kt q w lo (.map (some b)) n (upd f k v) := by
  refine .inr ⟨b, _, rfl, hlo, hown, fun x hx => ?_⟩
  by_cases h : x = k
  · subst h
    have hk : WideAt.IsKeyLit (.int q x) := trivial
    rw [Maps.has_put_same hm hk, Maps.atKey_put_same hm hk]
    simp [upd]
  · have hne : Lit.int q x ≠ Lit.int q k := fun e => h (by injection e)
    rw [Maps.has_put_other hne, Maps.atKey_put_other hne]
    have := hD x hx
    simpa [upd, h] using this

theorem eqm_n (w : World) : (binOp BinOp.eql 40 (Value.map none) (Value.map none)).run Tryz.prog w = .ok (.bool true) w := by kernel_rfl
theorem eqm_s (b : Nat) (w : World) : (binOp BinOp.eql 40 (Value.map (some b)) (Value.map none)).run Tryz.prog w = .ok (.bool false) w := by kernel_rfl
theorem eqt_n (w : World) : (binOp BinOp.eql 41 (Value.map none) (Value.map none)).run Tryz.prog w = .ok (.bool true) w := by kernel_rfl
theorem eqt_s (b : Nat) (w : World) : (binOp BinOp.eql 41 (Value.map (some b)) (Value.map none)).run Tryz.prog w = .ok (.bool false) w := by kernel_rfl
theorem grown_cm {w w' : World} {lo b : Nat} {L : List Nat} (hlo : lo ≤ b) (hb : ∃ es c, w.heap[b]? = some (.map es c)) (h : w.grownBy w' (some b)) : Cm lo L w w' :=
  ⟨h.os, h.tape, h.output, h.size, fun i hi _ hm => h.block i hi fun e => by
    injection e with e
    subst e
    obtain ⟨es, c, hb⟩ := hb
    exact hm hlo es c hb⟩

set_option maxHeartbeats 1000000 in
set_option maxRecDepth 100000 in
theorem noteBorn_any {w : World} {lo B n : Nat} {k : Bk} {mb mt : Value} (h : IsBook w lo B n k mb mt) (hlo : lo ≤ w.heap.size) (hn : n < 9223372036854775807) (r p : Int) (hr : (Lit.int .i64 r).wf = true) (hp : (Lit.int .i64 p).wf = true) :
    Calls Tryz.prog 42 #[.pointer (some ⟨B, 0, none⟩), .int .i64 r, .int .i64 p] w fun e w' => e = .returned (.tuple #[]) ∧ (∃ mb', IsBook w' lo B (n + 1) { k with born := upd k.born r p } mb' mt) ∧ Cm lo [B] w w' := by
  have hkey := Maps.keyOf_int_mk Tryz.underlying3 hr
  have hval := plainElem_int (H := Unit) Tryz.underlying3 hp
  have hmm := @run_makeMap Tryz.prog
  have hbl := h.lt
  rcases h.pb with ⟨rfl, hf⟩ | ⟨b, D, rfl, hlb, hown, hD⟩
  · have hz : (w.setCell ⟨B, 1, none⟩ (.map (some w.heap.size))).heap.size = w.heap.size := by simp [World.setCell]
    have own2 := World.ownsMap_made (w.setCell ⟨B, 1, none⟩ (.map (some w.heap.size))) Tryz.prog 3 (plainElem (H := Unit) Tryz.prog 3)
    rw [hz] at own2
    have ba := alloc_below (w.setCell ⟨B, 1, none⟩ (.map (some w.heap.size))) (.map #[] 0)
    have hd2 := (ba.block B (by omega)).trans (Mm.heap_setCell_at (o := 1) h.head (.map (some w.heap.size)))
    have pt2 : Pts 38 .u64 ((w.setCell ⟨B, 1, none⟩ (.map (some w.heap.size))).alloc (.map #[] 0)) lo mt n k.turned := h.pt.cm fun b hm => by
      obtain ⟨_, es, c, hb⟩ := h.pt.block hm
      have hbB : b ≠ B := fun e => by rw [e, h.head] at hb; cases hb
      rw [ba.block b (by have := lt_of_block hb; omega), block_stored _ (lt_of_block hb) hbB]
    have hap : ∀ b, mt = .map (some b) → b ≠ w.heap.size := fun b hm e => by
      obtain ⟨_, es, c, hb⟩ := h.pt.block hm
      have := lt_of_block hb
      omega
    have cm2 : Cm lo [B] w ((w.setCell ⟨B, 1, none⟩ (.map (some w.heap.size))).alloc (.map #[] 0)) := ((Cm.refl lo [B] w).setCell (by simp) _).then_below ba
    obtain ⟨w3, hrun, own3, hg⟩ := own2.update lawI Tryz.underlying40 (by unfold maxLen; omega) hkey hval
    obtain ⟨l0, l1, l2⟩ := h.cells
    have fz := h.free 1
    have l3 : ((w.setCell ⟨B, 1, none⟩ (.map (some w.heap.size))).alloc (.map #[] 0)).cell? ⟨B, 1, none⟩ = some (.map (some w.heap.size)) := by
      unfold World.cell?
      simp only [hd2]
      simp
    clear hn hr hp hkey hval
    have q1 := eqm_n
    have q2 := eqm_s
    go_enter Tryz.func42, Tryz.ntmps42
    go_upto_region 2 with fail
    clear l0 l1 l2 fz hmm ba hz
    generalize (w.setCell ⟨B, 1, none⟩ (.map (some w.heap.size))).alloc (.map #[] 0) = w2 at *
    go_wp2
    go_end0
    have hne : ∀ b, b ≠ w.heap.size → b < w2.heap.size → w3.heap[b]? = w2.heap[b]? := fun b hb hl => hg.block b hl (fun e => hb (by injection e))
    refine ⟨rfl, ⟨_, ?_, (Pts.put hlo (f := k.born) (fun x hx => ?_) Maps.isMap_empty own3).mono (by omega), (pt2.cm fun b hm => ?_).mono (by omega), fun b hb hm => ?_⟩, cm2.trans (grown_cm hlo (by obtain ⟨es, c, hb, _⟩ := own2; exact ⟨es, c, hb⟩) hg)⟩
    · rw [hne B (by omega) (lt_of_block hd2), hd2]
      simp
    · rw [hf x]
      exact ⟨rfl, rfl⟩
    · obtain ⟨_, es, c, hb⟩ := pt2.block hm
      exact hne b (hap b hm) (lt_of_block hb)
    · cases hb
      exact hap _ hm rfl
  · obtain ⟨w3, hrun, own3, hg⟩ := hown.update lawI Tryz.underlying40 (by unfold maxLen; omega) hkey hval
    obtain ⟨l0, l1, l2⟩ := h.cells
    have hbB : b ≠ B := fun e => by
      obtain ⟨es, c, hb, _⟩ := hown
      rw [e, h.head] at hb; cases hb
    clear hn hr hp hkey hval
    have q1 := eqm_n
    have q2 := eqm_s
    go_enter Tryz.func42, Tryz.ntmps42
    go_wp2
    go_end0
    have hne : ∀ x, x ≠ b → x < w.heap.size → w3.heap[x]? = w.heap[x]? := fun x hb hl => hg.block x hl (fun e => hb (by injection e))
    refine ⟨rfl, ⟨_, ?_, Pts.put hlb (f := k.born) hD hown.isMap own3, (h.pt.cm fun x hm => ?_).mono (by omega), h.ap⟩, grown_cm hlb (by obtain ⟨es, c, hb, _⟩ := hown; exact ⟨es, c, hb⟩) hg⟩
    · rw [hne B (Ne.symm hbB) hbl]
      exact h.head
    · obtain ⟨_, es, c, hb⟩ := h.pt.block hm
      exact hne x (fun e => h.ap b rfl (by rw [hm, e])) (lt_of_block hb)

theorem cell_kept {w w' : World} {b B : Nat} (h : w.grownBy w' (some b)) (hB : B < w.heap.size) (hne : B ≠ b) (i : Nat) : w'.cell? ⟨B, i, none⟩ = w.cell? ⟨B, i, none⟩ :=
  World.cell?_of_block (w := w) (w' := w') (a := ⟨B, i, none⟩) (h.block B hB (fun e => hne (by injection e)))

set_option maxHeartbeats 1000000 in
set_option maxRecDepth 100000 in
theorem noteTurned_any {w : World} {lo B n : Nat} {k : Bk} {mb mt : Value} (h : IsBook w lo B n k mb mt) (hlo : lo ≤ w.heap.size) (hn : n < 9223372036854775807) (r : Int) (hr : (Lit.int .u64 r).wf = true) (hp : (Lit.int .i64 k.now).wf = true) :
    Calls Tryz.prog 43 #[.pointer (some ⟨B, 0, none⟩), .int .u64 r] w fun e w' => e = .returned (.tuple #[]) ∧ (∃ mt', IsBook w' lo B (n + 1) { k with turned := upd k.turned r k.now } mb mt') ∧ Cm lo [B] w w' := by
  have hkey := Maps.keyOf_int_mk Tryz.underlying38 hr
  have hval := plainElem_int (H := Unit) Tryz.underlying3 hp
  have hmm := @run_makeMap Tryz.prog
  have hbl := h.lt
  rcases h.pt with ⟨rfl, hf⟩ | ⟨b, D, rfl, hlb, hown, hD⟩
  · have hz : (w.setCell ⟨B, 2, none⟩ (.map (some w.heap.size))).heap.size = w.heap.size := by simp [World.setCell]
    have own2 := World.ownsMap_made (w.setCell ⟨B, 2, none⟩ (.map (some w.heap.size))) Tryz.prog 38 (plainElem (H := Unit) Tryz.prog 3)
    rw [hz] at own2
    have ba := alloc_below (w.setCell ⟨B, 2, none⟩ (.map (some w.heap.size))) (.map #[] 0)
    have hd2 := (ba.block B (by omega)).trans (Mm.heap_setCell_at (o := 2) h.head (.map (some w.heap.size)))
    have pt2 : Pts 3 .i64 ((w.setCell ⟨B, 2, none⟩ (.map (some w.heap.size))).alloc (.map #[] 0)) lo mb n k.born := h.pb.cm fun b hm => by
      obtain ⟨_, es, c, hb⟩ := h.pb.block hm
      have hbB : b ≠ B := fun e => by rw [e, h.head] at hb; cases hb
      rw [ba.block b (by have := lt_of_block hb; omega), block_stored _ (lt_of_block hb) hbB]
    have hap : ∀ b, mb = .map (some b) → b ≠ w.heap.size := fun b hm e => by
      obtain ⟨_, es, c, hb⟩ := h.pb.block hm
      have := lt_of_block hb
      omega
    have cm2 : Cm lo [B] w ((w.setCell ⟨B, 2, none⟩ (.map (some w.heap.size))).alloc (.map #[] 0)) := ((Cm.refl lo [B] w).setCell (by simp) _).then_below ba
    obtain ⟨l0, l1, l2⟩ := h.cells
    have fz := h.free 2
    go_enter Tryz.func43, Tryz.ntmps43
    have q1 := eqt_n
    have q2 := eqt_s
    go_upto_region 2 with fail
    clear l0 l1 l2 fz hmm ba hz q1 q2
    generalize (w.setCell ⟨B, 2, none⟩ (.map (some w.heap.size))).alloc (.map #[] 0) = w2 at *
    obtain ⟨w3, hrun, own3, hg⟩ := own2.drew.update lawU Tryz.underlying41 (by unfold maxLen; omega) hkey hval
    have hB2 := lt_of_block hd2
    have l2 : w2.drew.cell? ⟨B, 2, none⟩ = some (.map (some w.heap.size)) := by
      show w2.cell? ⟨B, 2, none⟩ = _
      unfold World.cell?
      simp only [hd2]
      simp
    have l0 : w2.drew.cell? ⟨B, 0, none⟩ = some (.int .i64 k.now) := by
      show w2.cell? ⟨B, 0, none⟩ = _
      unfold World.cell?
      simp only [hd2]
      simp
    have m2 := (cell_kept hg hB2 (by omega) 2).trans l2
    have m0 := (cell_kept hg hB2 (by omega) 0).trans l0
    clear hn hr hp hkey hval
    go_region_held (fun w' => w'.cell? ⟨B, 2, none⟩ = some (.map (some w.heap.size)) ∧ w'.cell? ⟨B, 0, none⟩ = some (.int .i64 k.now)) (first | (exact ⟨l2, l0⟩) | (exact ⟨m2, m0⟩)) (fail)
    go_wp2
    go_end0
    have hne : ∀ b, b ≠ w.heap.size → b < w2.heap.size → w3.heap[b]? = w2.heap[b]? := fun b hb hl => hg.block b hl (fun e => hb (by injection e))
    refine ⟨rfl, ⟨_, ?_, (pt2.cm fun b hm => ?_).mono (by omega), (Pts.put hlo (f := k.turned) (fun x hx => ?_) Maps.isMap_empty own3).mono (by omega), fun b hb hm => ?_⟩, (cm2.then_below (Below.refl _ _).drew).trans (grown_cm hlo (by obtain ⟨es, c, hb, _⟩ := own2; exact ⟨es, c, hb⟩) hg)⟩
    · rw [hne B (by omega) (lt_of_block hd2), hd2]
      simp
    · obtain ⟨_, es, c, hb⟩ := pt2.block hm
      exact hne b (hap b hm) (lt_of_block hb)
    · rw [hf x]
      exact ⟨rfl, rfl⟩
    · cases hm
      exact hap _ hb rfl
  · obtain ⟨w3, hrun, own3, hg⟩ := hown.drew.update lawU Tryz.underlying41 (by unfold maxLen; omega) hkey hval
    obtain ⟨l0, l1, l2⟩ := h.cells
    have hbB : b ≠ B := fun e => by
      obtain ⟨es, c, hb, _⟩ := hown
      rw [e, h.head] at hb; cases hb
    clear hn hr hp hkey hval
    have q1 := eqt_n
    have q2 := eqt_s
    go_enter Tryz.func43, Tryz.ntmps43
    go_upto_region 2 with fail
    clear l1 q1 q2
    have m2 : w.drew.cell? ⟨B, 2, none⟩ = some (.map (some b)) := l2
    have m0 : w.drew.cell? ⟨B, 0, none⟩ = some (.int .i64 k.now) := l0
    have k2 := (cell_kept hg hbl (Ne.symm hbB) 2).trans m2
    have k0 := (cell_kept hg hbl (Ne.symm hbB) 0).trans m0
    clear l0 l2
    go_region_held (fun w' => w'.cell? ⟨B, 2, none⟩ = some (.map (some b)) ∧ w'.cell? ⟨B, 0, none⟩ = some (.int .i64 k.now)) (first | (exact ⟨m2, m0⟩) | (exact ⟨k2, k0⟩)) (fail)
    go_wp2
    go_end0
    have hne : ∀ x, x ≠ b → x < w.heap.size → w3.heap[x]? = w.heap[x]? := fun x hb hl => hg.block x hl (fun e => hb (by injection e))
    refine ⟨rfl, ⟨_, ?_, (h.pb.cm fun x hm => ?_).mono (by omega), Pts.put hlb (f := k.turned) hD hown.isMap own3, fun x hx hm => by cases hm; exact h.ap _ hx rfl⟩, (Cm.of_below (Below.refl _ _).drew).trans (grown_cm hlb (by obtain ⟨es, c, hb, _⟩ := hown; exact ⟨es, c, hb⟩) hg)⟩
    · rw [hne B (Ne.symm hbB) hbl]
      exact h.head
    · obtain ⟨_, es, c, hb⟩ := h.pb.block hm
      exact hne x (fun e => h.ap x hm (by rw [e])) (lt_of_block hb)
end Go.Proofs.YtnegdabcjnhpdaaGreatDoor
/- What the machines of package field work on: words, touches and a book; a block of cells beside them. -/
namespace Go.Proofs.YtnegdabcjnhpdaaGreatDoor
open Go.RowKit
open Mm (IsMem MS touched Only)
open Hh (WT)

/-! A memory's methods, told by its words. -/
theorem loadX {w : World} {M G : Nat} {X : List Nat} {T : Int} (h : MemX w M G X T) {i : Nat} (hi : i < X.length) (ht : 0 ≤ T ∧ T < 4611686018427387904) {v : Nat} (hv : X.getD i 0 = v) :
    Calls Tryz.prog 24 #[.pointer (some ⟨M, 0, none⟩), .int .i64 (i : Nat)] w fun e w' => e = .returned (.int .u64 (v : Nat)) ∧ MemX w' M G X (T + 1) ∧ Only M G w w' := by
  obtain ⟨m, hm, rfl, rfl⟩ := h
  have c := Mm.load_in hm i hi ht
  rw [hv] at c
  exact c.mono fun e w' ⟨h1, h2, h3⟩ => ⟨h1, ⟨_, h2, by rw [← hv]; exact touched_X m 1 i, rfl⟩, h3⟩
theorem storeX {w : World} {M G : Nat} {X : List Nat} {T : Int} (h : MemX w M G X T) {i v : Nat} (hi : i < X.length) (hv : v < 18446744073709551616) (ht : 0 ≤ T ∧ T < 4611686018427387904) :
    Calls Tryz.prog 68 #[.pointer (some ⟨M, 0, none⟩), .int .i64 (i : Nat), .int .u64 (v : Nat)] w fun e w' => e = .returned (.bool true) ∧ MemX w' M G (X.set i v) (T + 1) ∧ Only M G w w' := by
  obtain ⟨m, hm, rfl, rfl⟩ := h
  exact (Mm.store_in hm i v hi hv ht).mono fun e w' ⟨h1, h2, h3⟩ => ⟨h1, ⟨_, h2, rfl, rfl⟩, h3⟩
theorem swapX_yes {w : World} {M G : Nat} {X : List Nat} {T : Int} (h : MemX w M G X T) {i o v : Nat} (hi : i < X.length) (hv : v < 18446744073709551616) (ho : X.getD i 0 = o) (ht : 0 ≤ T ∧ T < 4611686018427387904) :
    Calls Tryz.prog 41 #[.pointer (some ⟨M, 0, none⟩), .int .i64 (i : Nat), .int .u64 (o : Nat), .int .u64 (v : Nat)] w fun e w' => e = .returned (.bool true) ∧ MemX w' M G (X.set i v) (T + 1) ∧ Only M G w w' := by
  obtain ⟨m, hm, rfl, rfl⟩ := h
  exact (Mm.swap_yes hm i o v hi hv ho ht).mono fun e w' ⟨h1, h2, h3⟩ => ⟨h1, ⟨_, h2, rfl, rfl⟩, h3⟩
theorem swapX_no {w : World} {M G : Nat} {X : List Nat} {T : Int} (h : MemX w M G X T) {i o v : Nat} (hi : i < X.length) (ho : X.getD i 0 ≠ o) (ht : 0 ≤ T ∧ T < 4611686018427387904) :
    Calls Tryz.prog 41 #[.pointer (some ⟨M, 0, none⟩), .int .i64 (i : Nat), .int .u64 (o : Nat), .int .u64 (v : Nat)] w fun e w' => e = .returned (.bool false) ∧ MemX w' M G X (T + 1) ∧ Only M G w w' := by
  obtain ⟨m, hm, rfl, rfl⟩ := h
  exact (Mm.swap_no hm i o v hi ho ht).mono fun e w' ⟨h1, h2, h3⟩ => ⟨h1, ⟨_, h2, touched_X m 3 i, rfl⟩, h3⟩

/-- The words, how many touches there were, and what the book notes. -/
structure Gs where
  X : List Nat
  T : Int
  k : Bk
structure GW (w : World) (lo M G B N : Nat) (g : Gs) : Prop where
  mem : MemX w M G g.X g.T
  book : HasBook w lo B g.T.toNat g.k
  wt : WT w
  len : g.X.length = N
  tb : 0 ≤ g.T ∧ g.T < 4611686018427387904
  now : -4611686018427387904 < g.k.now ∧ g.k.now < 4611686018427387904
  ne : M ≠ B ∧ G ≠ B
  lo1 : 1 ≤ lo ∧ lo ≤ M ∧ lo ≤ G ∧ lo ≤ B ∧ lo ≤ w.heap.size
theorem GW.below {w w' : World} {lo M G B N : Nat} {g : Gs} (h : GW w lo M G B N g) (b : Below w.heap.size w w') : GW w' lo M G B N g :=
  ⟨h.mem.below b, by obtain ⟨mb, mt, x⟩ := h.book; exact ⟨mb, mt, x.below b⟩, h.wt.below b, h.len, h.tb, h.now, h.ne, by have := h.lo1; have := b.size; omega⟩
theorem MemX.blocks {w : World} {M G : Nat} {X : List Nat} {T : Int} (h : MemX w M G X T) : (∃ c t f, w.heap[M]? = some (.cells c t f)) ∧ (∃ c t f, w.heap[G]? = some (.cells c t f)) := by
  obtain ⟨m, h1, _⟩ := h
  exact ⟨⟨_, _, _, h1.head⟩, ⟨_, _, _, h1.row⟩⟩
theorem GW.only {w w' : World} {lo M G B N : Nat} {g : Gs} (h : GW w lo M G B N g) {X : List Nat} {T : Int} (hm : MemX w' M G X T) (o : Only M G w w') (hl : X.length = N) (ht : g.T ≤ T) (ht2 : T < 4611686018427387904) : GW w' lo M G B N ⟨X, T, g.k⟩ := by
  have c : Chg [M, G] w w' := Chg.of_only o (by simp) (by simp)
  have hn := h.ne
  have hl1 := h.lo1
  refine ⟨hm, ?_, WT.chg h.wt c (by simp; omega), hl, ⟨by have := h.tb; show 0 ≤ T; omega, ht2⟩, h.now, h.ne, by have := c.size; omega⟩
  obtain ⟨mb, mt, x⟩ := h.book
  refine ⟨mb, mt, (x.chg c (by simp; omega) fun i hi => ?_).mono (by show g.T.toNat ≤ T.toNat; omega)⟩
  simp at hi
  rcases hi with rfl | rfl
  · exact .inr h.mem.blocks.1
  · exact .inr h.mem.blocks.2
/-- Another block of cells is written. -/
theorem GW.set {w : World} {lo M G B N : Nat} {g : Gs} (h : GW w lo M G B N g) {P i : Nat} {c : Array Value} {t : TypeId} {f : Nat × Nat} (hp : w.heap[P]? = some (.cells c t f)) (hn : P ≠ M ∧ P ≠ G ∧ P ≠ B) (hlo : lo ≤ P) (v : Value) : GW (w.setCell ⟨P, i, none⟩ v) lo M G B N g := by
  have ch : Chg [P] w (w.setCell ⟨P, i, none⟩ v) := (Chg.refl [P] w).setCell (by simp) v
  have hl1 := h.lo1
  refine ⟨h.mem.chg ch (by simp; omega) (by simp; omega), ?_, WT.chg h.wt ch (by simp; omega), h.len, h.tb, h.now, h.ne, by have := ch.size; omega⟩
  obtain ⟨mb, mt, x⟩ := h.book
  refine ⟨mb, mt, x.chg ch (by simp; omega) fun i hi => ?_⟩
  simp at hi
  subst hi
  exact .inr ⟨_, _, _, hp⟩

/-- What is known of the world within a step of a machine that lies in block P. -/
structure InF (w wr : World) (lo M G B N : Nat) (g : Gs) (P : Nat) (c : Array Value) (t : TypeId) : Prop where
  gw : GW wr lo M G B N g
  blk : wr.heap[P]? = some (.cells c t (0, 0))
  cm : Cm lo [P, M, G, B] w wr
  hP : P ≠ M ∧ P ≠ G ∧ P ≠ B
  lo : lo ≤ P
theorem InF.start {w : World} {lo M G B N : Nat} {g : Gs} {P : Nat} {c : Array Value} {t : TypeId} (h : GW w lo M G B N g) (hb : w.heap[P]? = some (.cells c t (0, 0))) (hP : P ≠ M ∧ P ≠ G ∧ P ≠ B) (hlo : lo ≤ P) : InF w w lo M G B N g P c t := ⟨h, hb, Cm.refl _ _ _, hP, hlo⟩
theorem InF.below {w wr w' : World} {lo M G B N : Nat} {g : Gs} {P : Nat} {c : Array Value} {t : TypeId} (h : InF w wr lo M G B N g P c t) (b : Below wr.heap.size wr w') : InF w w' lo M G B N g P c t :=
  ⟨h.gw.below b, (b.block P (lt_of_block h.blk)).trans h.blk, h.cm.then_below b, h.hP, h.lo⟩
theorem InF.drew {w wr : World} {lo M G B N : Nat} {g : Gs} {P : Nat} {c : Array Value} {t : TypeId} (h : InF w wr lo M G B N g P c t) : InF w wr.drew lo M G B N g P c t := h.below (Below.refl _ _).drew
theorem InF.only {w wr w' : World} {lo M G B N : Nat} {g : Gs} {P : Nat} {c : Array Value} {t : TypeId} (h : InF w wr lo M G B N g P c t) {X : List Nat} {T : Int} (hm : MemX w' M G X T) (o : Only M G wr w') (hl : X.length = N) (ht : g.T ≤ T) (ht2 : T < 4611686018427387904) : InF w w' lo M G B N ⟨X, T, g.k⟩ P c t :=
  ⟨h.gw.only hm o hl ht ht2, (o.block P (lt_of_block h.blk) h.hP.1 h.hP.2.1).trans h.blk, h.cm.trans (Cm.of_chg (Chg.of_only o (by simp) (by simp))), h.hP, h.lo⟩
theorem InF.set {w wr : World} {lo M G B N : Nat} {g : Gs} {P : Nat} {c : Array Value} {t : TypeId} (h : InF w wr lo M G B N g P c t) (i : Nat) (v : Value) : InF w (wr.setCell ⟨P, i, none⟩ v) lo M G B N g P (c.setIfInBounds i v) t :=
  ⟨h.gw.set h.blk h.hP h.lo v, Mm.heap_setCell_at h.blk v, h.cm.setCell (by simp) v, h.hP, h.lo⟩
theorem InF.cell {w wr : World} {lo M G B N : Nat} {g : Gs} {P : Nat} {c : Array Value} {t : TypeId} (h : InF w wr lo M G B N g P c t) {i : Nat} {v : Value} (hi : c[i]? = some v) : wr.cell? ⟨P, i, none⟩ = some v := by
  unfold World.cell?
  simp only [h.blk]
  exact hi
theorem InF.free {w wr : World} {lo M G B N : Nat} {g : Gs} {P : Nat} {c : Array Value} {t : TypeId} (h : InF w wr lo M G B N g P c t) (i : Nat) : wr.frozen? ⟨P, i, none⟩ = false := by
  have h' := h.blk
  simp [World.frozen?, h']
/-- The book has noted something. -/
theorem InF.noted {w wr w' : World} {lo M G B N : Nat} {g : Gs} {P : Nat} {c : Array Value} {t : TypeId} (h : InF w wr lo M G B N g P c t) {k : Bk} (hk : HasBook w' lo B g.T.toNat k) (x : Cm lo [B] wr w') (hn : k.now = g.k.now) : InF w w' lo M G B N ⟨g.X, g.T, k⟩ P c t := by
  have hne := h.gw.ne
  have hl := h.gw.lo1
  have hP := h.hP
  refine ⟨⟨h.gw.mem.cm x (by simp; omega) (by simp; omega), hk, WT.cm h.gw.wt x (by simp; omega) hl.1, h.gw.len, h.gw.tb, by show _ < k.now ∧ k.now < _; rw [hn]; exact h.gw.now, hne, by have := x.size; omega⟩, x.at h.blk (by simp; omega), h.cm.trans (x.mono (by simp)), hP, h.lo⟩

/-- A cell of an array that is set to what it has. -/
theorem set_get {c : Array Value} {i : Nat} {v : Value} (h : c[i]? = some v) : c.setIfInBounds i v = c := by
  apply Array.ext_getElem?
  intro j
  rw [Array.getElem?_setIfInBounds]
  split
  · rename_i e; subst e
    rw [if_pos (Array.getElem?_eq_some_iff.1 h).1, h]
  · rfl
theorem get_set_ne {c : Array Value} {i j : Nat} {v : Value} (h : i ≠ j) : (c.setIfInBounds i v)[j]? = c[j]? := by rw [Array.getElem?_setIfInBounds, if_neg h]
theorem get_set {c : Array Value} {i : Nat} {v : Value} (h : i < c.size) : (c.setIfInBounds i v)[i]? = some v := by rw [Array.getElem?_setIfInBounds, if_pos rfl, if_pos h]
end Go.Proofs.YtnegdabcjnhpdaaGreatDoor
/- Contracts of package field's Stamp, wherever it lies in a block. -/
namespace Go.Proofs.YtnegdabcjnhpdaaGreatDoor
open Go.RowKit
open Mm (IsMem MS touched Only)
open Hh (WT)

/-- What stamps a record: the record, where its stamp stands, how far it is, the clock as it was loaded, and when. -/
structure Sm where
  rc : Int
  place : Nat
  pc : Int
  clock : Nat
  point : Int
structure SmAt (c : Array Value) (o B : Nat) (s : Sm) : Prop where
  b : c[o]? = some (.pointer (some ⟨B, 0, none⟩))
  rc : c[o + 1]? = some (.int .i64 s.rc)
  place : c[o + 2]? = some (.int .i64 (s.place : Nat))
  pc : c[o + 3]? = some (.int .i64 s.pc)
  clock : c[o + 4]? = some (.int .u64 (s.clock : Nat))
  point : c[o + 5]? = some (.int .i64 s.point)
def smPut (c : Array Value) (o : Nat) (s : Sm) : Array Value := ((c.setIfInBounds (o + 3) (.int .i64 s.pc)).setIfInBounds (o + 4) (.int .u64 (s.clock : Nat))).setIfInBounds (o + 5) (.int .i64 s.point)
def Sm.step (s : Sm) (g : Gs) : Sm × Gs :=
  if s.pc = 0 then ({ s with pc := if g.X.getD s.place 0 = 0 then 1 else 3 }, { g with T := g.T + 1 })
  else if s.pc = 1 then ({ s with pc := 2, clock := g.X.getD 0 0, point := g.k.now }, { g with T := g.T + 1 })
  else if s.pc = 2 then
    ({ s with pc := 3 }, if g.X.getD s.place 0 = 0 then ⟨g.X.set s.place s.clock, g.T + 1, { g.k with born := upd g.k.born s.rc s.point }⟩ else { g with T := g.T + 1 })
  else (s, g)
structure Sm.Ok (s : Sm) (N : Nat) : Prop where
  pc : 0 ≤ s.pc ∧ s.pc ≤ 3
  place : s.place < N
  clock : s.clock < 18446744073709551616
  rc : (Lit.int .i64 s.rc).wf = true
  point : -4611686018427387904 < s.point ∧ s.point < 4611686018427387904
theorem wf64 {z : Int} (h : -4611686018427387904 < z ∧ z < 4611686018427387904) : (Lit.int .i64 z).wf = true := WalkArith.wf_i64 (by omega)

theorem SmAt.size {c : Array Value} {o B : Nat} {s : Sm} (h : SmAt c o B s) : o + 5 < c.size := (Array.getElem?_eq_some_iff.1 h.point).1
theorem put3 {c : Array Value} {o B : Nat} {s : Sm} (h : SmAt c o B s) (v : Int) : smPut c o { s with pc := v } = c.setIfInBounds (o + 3) (.int .i64 v) := by
  have h4 : (c.setIfInBounds (o + 3) (.int .i64 v)).setIfInBounds (o + 4) (.int .u64 (s.clock : Nat)) = c.setIfInBounds (o + 3) (.int .i64 v) := set_get (by rw [get_set_ne (by omega)]; exact h.clock)
  have h5 : (c.setIfInBounds (o + 3) (.int .i64 v)).setIfInBounds (o + 5) (.int .i64 s.point) = c.setIfInBounds (o + 3) (.int .i64 v) := set_get (by rw [get_set_ne (by omega)]; exact h.point)
  show ((c.setIfInBounds (o + 3) (.int .i64 v)).setIfInBounds (o + 4) (.int .u64 (s.clock : Nat))).setIfInBounds (o + 5) (.int .i64 s.point) = _
  rw [h4, h5]

set_option maxHeartbeats 1000000 in
theorem loadStamp_any {w : World} {lo M G B N P o : Nat} {g : Gs} {c : Array Value} {t : TypeId} {s : Sm} (is : InF w w lo M G B N g P c t) (hs : SmAt c o B s) (hk : s.Ok N) (hT : g.T + 1 < 4611686018427387904) :
    Calls Tryz.prog 23 #[.pointer (some ⟨P, o, none⟩), .pointer (some ⟨M, 0, none⟩)] w fun r w' => r = .returned (.tuple #[]) ∧ InF w w' lo M G B N { g with T := g.T + 1 } P (c.setIfInBounds (o + 3) (.int .i64 (if g.X.getD s.place 0 = 0 then 1 else 3))) t := by
  have hsz := hs.size
  have l3 := is.cell hs.pc
  have f3 := is.free (o + 3)
  have i1 := is.set (o + 3) (.int .i64 1)
  have e2 : (c.setIfInBounds (o + 3) (.int .i64 1))[o + 2]? = some (.int .i64 (s.place : Nat)) := by rw [get_set_ne (by omega)]; exact hs.place
  have e3 : (c.setIfInBounds (o + 3) (.int .i64 1))[o + 3]? = some (.int .i64 1) := get_set (by omega)
  have hl : s.place < g.X.length := by rw [is.gw.len]; exact hk.place
  have hlen := is.gw.len
  have htb := is.gw.tb
  obtain ⟨v, hv⟩ : ∃ v, g.X.getD s.place 0 = v := ⟨_, rfl⟩
  rw [hv]
  obtain ⟨z, hz⟩ : ∃ z : Int, (if v = 0 then 1 else 3) = z := ⟨_, rfl⟩
  rw [hz]
  clear hs
  go_enter Tryz.func23, Tryz.ntmps23
  go_upto_region 1 with fail
  clear l3 f3 is
  generalize hc : c.setIfInBounds (o + 3) (.int .i64 1) = c1 at *
  generalize w.setCell ⟨P, o + 3, none⟩ (.int .i64 1) = w1 at *
  have l2 := i1.cell e2
  have c0 := loadX i1.gw.mem hl htb hv
  have hfin : ∀ (z : Int), c1.setIfInBounds (o + 3) (.int .i64 z) = c.setIfInBounds (o + 3) (.int .i64 z) := fun z => by
    rw [← hc]
    apply Array.ext_getElem?
    intro j
    simp only [Array.getElem?_setIfInBounds]
    split
    · simp
    · rfl
  by_cases h0 : v = 0
  · obtain rfl : z = 1 := by rw [← hz, if_pos h0]
    subst h0
    clear e2 hz
    go_wp2_with (go_at_call 24; refine c0.mono ?_; rintro e w2 ⟨rfl, hm, ho⟩; have i2 := i1.only hm ho hlen (by omega) hT)
    go_end0
    refine ⟨rfl, ?_⟩
    rw [← hfin 1, set_get e3]
    exact i2
  · obtain rfl : z = 3 := by rw [← hz, if_neg h0]
    clear hz
    have hne : ¬ (v : Int) = 0 := by omega
    clear e2
    go_upto_region 2 with (go_at_call 24; refine c0.mono ?_; rintro e w2 ⟨rfl, hm, ho⟩; have i2 := i1.only hm ho hlen (by omega) hT)
    have l3 := i2.cell e3
    have f3 := i2.free (o + 3)
    have i3 := i2.set (o + 3) (.int .i64 3)
    rw [hfin 3] at i3
    go_wp2
    go_end0
    exact ⟨rfl, i3⟩

theorem HasBook.below {w w' : World} {lo B n : Nat} {k : Bk} (h : HasBook w lo B n k) (b : Below w.heap.size w w') : HasBook w' lo B n k := by
  obtain ⟨mb, mt, x⟩ := h
  exact ⟨mb, mt, x.below b⟩
theorem GW.bookOnly {w w' : World} {lo M G B N : Nat} {g : Gs} (h : GW w lo M G B N g) (o : Only M G w w') : HasBook w' lo B g.T.toNat g.k := by
  have c : Chg [M, G] w w' := Chg.of_only o (by simp) (by simp)
  have hn := h.ne
  obtain ⟨mb, mt, x⟩ := h.book
  refine ⟨mb, mt, x.chg c (by simp; omega) fun i hi => ?_⟩
  simp at hi
  rcases hi with rfl | rfl
  · exact .inr h.mem.blocks.1
  · exact .inr h.mem.blocks.2

set_option maxHeartbeats 2000000 in
theorem swapStamp_yes {w : World} {lo M G B N P o : Nat} {g : Gs} {c : Array Value} {t : TypeId} {s : Sm} (is : InF w w lo M G B N g P c t) (hs : SmAt c o B s) (hk : s.Ok N) (hT : g.T + 1 < 4611686018427387904) (hv : g.X.getD s.place 0 = 0) :
    Calls Tryz.prog 25 #[.pointer (some ⟨P, o, none⟩), .pointer (some ⟨M, 0, none⟩)] w fun r w' => r = .returned (.tuple #[]) ∧ InF w w' lo M G B N ⟨g.X.set s.place s.clock, g.T + 1, { g.k with born := upd g.k.born s.rc s.point }⟩ P (c.setIfInBounds (o + 3) (.int .i64 3)) t := by
  have hl : s.place < g.X.length := by rw [is.gw.len]; exact hk.place
  have hlen : (g.X.set s.place s.clock).length = N := by rw [List.length_set]; exact is.gw.len
  have htb := is.gw.tb
  have hpt := wf64 hk.point
  have hcs : ∀ wr g', InF w wr lo M G B N g' P c t → wr.cell? ⟨P, o, none⟩ = some (.pointer (some ⟨B, 0, none⟩)) ∧ wr.cell? ⟨P, o + 1, none⟩ = some (.int .i64 s.rc) ∧ wr.cell? ⟨P, o + 2, none⟩ = some (.int .i64 (s.place : Nat)) ∧ wr.cell? ⟨P, o + 4, none⟩ = some (.int .u64 (s.clock : Nat)) ∧ wr.cell? ⟨P, o + 5, none⟩ = some (.int .i64 s.point) := fun wr g' x => ⟨x.cell hs.b, x.cell hs.rc, x.cell hs.place, x.cell hs.clock, x.cell hs.point⟩
  have hc3 : ∀ wr g', InF w wr lo M G B N g' P c t → wr.cell? ⟨P, o + 3, none⟩ = some (.int .i64 s.pc) ∧ wr.frozen? ⟨P, o + 3, none⟩ = false := fun wr g' x => ⟨x.cell hs.pc, x.free _⟩
  have c0 : ∀ wr, InF w wr lo M G B N g P c t → Calls Tryz.prog 41 #[.pointer (some ⟨M, 0, none⟩), .int .i64 (s.place : Nat), .int .u64 0, .int .u64 (s.clock : Nat)] wr fun e w' => e = .returned (.bool true) ∧ MemX w' M G (g.X.set s.place s.clock) (g.T + 1) ∧ Only M G wr w' := fun wr x => swapX_yes x.gw.mem hl hk.clock hv htb
  have hrw := hk.rc
  clear hs hk
  generalize (s.place : Int) = pl at *
  generalize (s.clock : Int) = ck at *
  generalize s.pc = pc at *
  generalize g.X.set s.place s.clock = X' at *
  generalize s.rc = rc at *
  generalize s.point = pt at *
  replace is := is.below (Below.refl _ _)
  go_enter Tryz.func25, Tryz.ntmps25
  go_upto_region 0 with fail
  replace is := is.drew
  go_region_held (fun wr => wr.cell? ⟨P, o + 2, none⟩ = some (.int .i64 pl) ∧ wr.cell? ⟨P, o + 4, none⟩ = some (.int .u64 ck)) (exact ⟨(hcs _ _ is).2.2.1, (hcs _ _ is).2.2.2.1⟩) (first
    | (go_at_call 41; with_reducible refine (c0 _ is).mono ?_; rintro e w1 ⟨rfl, hm, ho⟩; have bk := is.gw.bookOnly ho; replace is := is.only hm ho hlen (by omega) hT))
  clear c0 hm ho hv hl hlen
  go_upto_region 1 with fail
  replace is := is.drew
  replace bk := bk.below (Below.refl _ _).drew
  obtain ⟨mb, mt, bk⟩ := bk
  have c1 := fun wr (x : IsBook wr lo B g.T.toNat g.k mb mt) (h : lo ≤ wr.heap.size) => noteBorn_any x h (by omega) rc pt hrw hpt
  have hmk : ∀ w2 mb', IsBook w2 lo B (g.T.toNat + 1) { g.k with born := upd g.k.born rc pt } mb' mt → HasBook w2 lo B (g.T + 1).toNat { g.k with born := upd g.k.born rc pt } := fun w2 mb' h => ⟨_, _, h.mono (by omega)⟩
  have hnt : ∀ wr w2, InF w wr lo M G B N ⟨X', g.T + 1, g.k⟩ P c t → HasBook w2 lo B (g.T + 1).toNat { g.k with born := upd g.k.born rc pt } → Cm lo [B] wr w2 → InF w w2 lo M G B N ⟨X', g.T + 1, { g.k with born := upd g.k.born rc pt }⟩ P c t := fun wr w2 x h cm => x.noted h cm rfl
  go_region_held (fun wr => wr.cell? ⟨P, o, none⟩ = some (.pointer (some ⟨B, 0, none⟩)) ∧ wr.cell? ⟨P, o + 1, none⟩ = some (.int .i64 rc) ∧ wr.cell? ⟨P, o + 5, none⟩ = some (.int .i64 pt)) (exact ⟨(hcs _ _ is).1, (hcs _ _ is).2.1, (hcs _ _ is).2.2.2.2⟩) (first
    | (go_at_call 42; with_reducible refine (c1 _ bk is.gw.lo1.2.2.2.2).mono ?_; rintro e w2 ⟨rfl, ⟨mb', bk2⟩, cm⟩; replace is := hnt _ _ is (hmk _ _ bk2) cm))
  clear bk c1 cm bk2 hmk hnt
  obtain ⟨l3, f3⟩ := hc3 _ _ is
  have i3 := is.set (o + 3) (.int .i64 3)
  clear hc3 hcs is
  go_wp2
  go_end0
  exact ⟨rfl, i3⟩

set_option maxHeartbeats 2000000 in
theorem swapStamp_no {w : World} {lo M G B N P o : Nat} {g : Gs} {c : Array Value} {t : TypeId} {s : Sm} (is : InF w w lo M G B N g P c t) (hs : SmAt c o B s) (hk : s.Ok N) (hT : g.T + 1 < 4611686018427387904) (hv : g.X.getD s.place 0 ≠ 0) :
    Calls Tryz.prog 25 #[.pointer (some ⟨P, o, none⟩), .pointer (some ⟨M, 0, none⟩)] w fun r w' => r = .returned (.tuple #[]) ∧ InF w w' lo M G B N { g with T := g.T + 1 } P (c.setIfInBounds (o + 3) (.int .i64 3)) t := by
  have hl : s.place < g.X.length := by rw [is.gw.len]; exact hk.place
  have hlen := is.gw.len
  have htb := is.gw.tb
  have hcs : ∀ wr g', InF w wr lo M G B N g' P c t → wr.cell? ⟨P, o + 2, none⟩ = some (.int .i64 (s.place : Nat)) ∧ wr.cell? ⟨P, o + 4, none⟩ = some (.int .u64 (s.clock : Nat)) := fun wr g' x => ⟨x.cell hs.place, x.cell hs.clock⟩
  have hc3 : ∀ wr g', InF w wr lo M G B N g' P c t → wr.cell? ⟨P, o + 3, none⟩ = some (.int .i64 s.pc) ∧ wr.frozen? ⟨P, o + 3, none⟩ = false := fun wr g' x => ⟨x.cell hs.pc, x.free _⟩
  have c0 : ∀ wr, InF w wr lo M G B N g P c t → Calls Tryz.prog 41 #[.pointer (some ⟨M, 0, none⟩), .int .i64 (s.place : Nat), .int .u64 0, .int .u64 (s.clock : Nat)] wr fun e w' => e = .returned (.bool false) ∧ MemX w' M G g.X (g.T + 1) ∧ Only M G wr w' := fun wr x => swapX_no x.gw.mem hl hv htb
  clear hs hk
  generalize (s.place : Int) = pl at *
  generalize (s.clock : Int) = ck at *
  generalize s.pc = pc at *
  go_enter Tryz.func25, Tryz.ntmps25
  go_upto_region 0 with fail
  replace is := is.drew
  go_region_held (fun wr => wr.cell? ⟨P, o + 2, none⟩ = some (.int .i64 pl) ∧ wr.cell? ⟨P, o + 4, none⟩ = some (.int .u64 ck)) (exact ⟨(hcs _ _ is).1, (hcs _ _ is).2⟩) (first
    | (go_at_call 41; with_reducible refine (c0 _ is).mono ?_; rintro e w1 ⟨rfl, hm, ho⟩; replace is := is.only hm ho hlen (by omega) hT))
  clear c0 hm ho hv hl hlen
  obtain ⟨l3, f3⟩ := hc3 _ _ is
  have i3 := is.set (o + 3) (.int .i64 3)
  clear hc3 hcs is
  go_wp2
  go_end0
  exact ⟨rfl, i3⟩
end Go.Proofs.YtnegdabcjnhpdaaGreatDoor
/- A Stamp's step, wherever it lies in a block. -/
namespace Go.Proofs.YtnegdabcjnhpdaaGreatDoor
open Go.RowKit
open Mm (IsMem MS touched Only)
open Hh (WT)

theorem put_order (c : Array Value) (o : Nat) (a b d : Value) : ((c.setIfInBounds (o + 4) b).setIfInBounds (o + 5) d).setIfInBounds (o + 3) a = ((c.setIfInBounds (o + 3) a).setIfInBounds (o + 4) b).setIfInBounds (o + 5) d := by
  apply Array.ext_getElem?
  intro j
  simp only [Array.getElem?_setIfInBounds, Array.size_setIfInBounds]
  by_cases h3 : o + 3 = j
  · subst h3; simp
  · by_cases h5 : o + 5 = j
    · subst h5; simp
    · by_cases h4 : o + 4 = j
      · subst h4; simp
      · simp [h3, h4, h5]

theorem smPut_pc {c : Array Value} {o B : Nat} {s s' : Sm} (h : SmAt c o B s) : (smPut c o s')[o + 3]? = some (.int .i64 s'.pc) := by
  have := h.size
  unfold smPut
  rw [get_set_ne (by omega), get_set_ne (by omega), get_set (by omega)]
theorem smPut_other {c : Array Value} {o i : Nat} {s : Sm} (h : i < o + 3 ∨ o + 5 < i) : (smPut c o s)[i]? = c[i]? := by
  unfold smPut
  rw [get_set_ne (by omega), get_set_ne (by omega), get_set_ne (by omega)]
theorem smPut_at {c : Array Value} {o B : Nat} {s s' : Sm} (h : SmAt c o B s) (h1 : s'.rc = s.rc) (h2 : s'.place = s.place) : SmAt (smPut c o s') o B s' := by
  have hz := h.size
  refine ⟨by rw [smPut_other (by omega)]; exact h.b, by rw [smPut_other (by omega), h1]; exact h.rc, by rw [smPut_other (by omega), h2]; exact h.place, smPut_pc h, ?_, ?_⟩
  · unfold smPut
    rw [get_set_ne (by omega), get_set (by simp; omega)]
  · unfold smPut
    rw [get_set (by simp; omega)]

set_option maxHeartbeats 1000000 in
theorem stp_1 {w : World} {lo M G B N P o : Nat} {g : Gs} {c : Array Value} {t : TypeId} {s : Sm} (is : InF w w lo M G B N g P c t) (hs : SmAt c o B s) (h1 : s.pc = 1) (hT : g.T + 1 < 4611686018427387904) (hN : 0 < N) :
    Calls Tryz.prog 9 #[.pointer (some ⟨P, o, none⟩), .pointer (some ⟨M, 0, none⟩)] w fun r w' => r = .returned (.bool false) ∧ InF w w' lo M G B N { g with T := g.T + 1 } P (smPut c o { s with pc := 2, clock := g.X.getD 0 0, point := g.k.now }) t := by
  have hz := hs.size
  have hlen := is.gw.len
  have c0 := loadX (i := 0) is.gw.mem (by omega) is.gw.tb rfl
  have htb := is.gw.tb
  have lb := is.cell hs.b
  have l3 := is.cell hs.pc
  rw [h1] at l3
  have hfin : smPut c o { s with pc := 2, clock := g.X.getD 0 0, point := g.k.now } = ((c.setIfInBounds (o + 4) (.int .u64 (g.X.getD 0 0 : Nat))).setIfInBounds (o + 5) (.int .i64 g.k.now)).setIfInBounds (o + 3) (.int .i64 2) := (put_order c o _ _ _).symm
  rw [hfin]
  have e4 := hs.clock
  have e5 := hs.point
  have e3 := hs.pc
  have eb := hs.b
  clear hs hfin
  generalize g.X.getD 0 0 = v at *
  go_enter Tryz.func9, Tryz.ntmps9
  go_upto_region 7 with fail
  clear lb l3
  go_upto_region 8 with (go_at_call 24; refine c0.mono ?_; rintro e w1 ⟨rfl, hm, ho⟩; replace is := is.only hm ho hlen (by omega) hT; have l4 := is.cell e4; have f4 := is.free (o + 4))
  replace is := is.set (o + 4) (.int .u64 (v : Nat))
  clear l4 f4 hm ho c0
  generalize w1.setCell ⟨P, o + 4, none⟩ (.int .u64 (v : Nat)) = w2 at *
  have lb := is.cell (i := o) (by rw [get_set_ne (by omega)]; exact eb)
  have l5 := is.cell (i := o + 5) (by rw [get_set_ne (by omega)]; exact e5)
  have f5 := is.free (o + 5)
  obtain ⟨mb, mt, bk⟩ := is.gw.book
  have n0 := bk.cells.1
  simp only at n0
  go_upto_region 9 with fail
  replace is := is.set (o + 5) (.int .i64 g.k.now)
  clear lb l5 f5 bk n0
  generalize w2.setCell ⟨P, o + 5, none⟩ (.int .i64 g.k.now) = w3 at *
  have l3 := is.cell (i := o + 3) (by rw [get_set_ne (by omega), get_set_ne (by omega)]; exact e3)
  have f3 := is.free (o + 3)
  go_upto_region 12 with fail
  replace is := is.set (o + 3) (.int .i64 2)
  clear l3 f3
  generalize w3.setCell ⟨P, o + 3, none⟩ (.int .i64 2) = w4 at *
  have l3 := is.cell (i := o + 3) (get_set (by simp; omega))
  go_wp2
  go_ret
  exact ⟨rfl, is⟩

set_option maxHeartbeats 1000000 in
theorem stp_3 {w : World} {lo M G B N P o : Nat} {g : Gs} {c : Array Value} {t : TypeId} {s : Sm} (is : InF w w lo M G B N g P c t) (hs : SmAt c o B s) (h1 : s.pc = 3) :
    Calls Tryz.prog 9 #[.pointer (some ⟨P, o, none⟩), .pointer (some ⟨M, 0, none⟩)] w fun r w' => r = .returned (.bool true) ∧ w = w' := by
  have lb := is.cell hs.b
  have l3 := is.cell hs.pc
  rw [h1] at l3
  go_enter Tryz.func9, Tryz.ntmps9
  go_wp2
  go_ret
  exact ⟨rfl, rfl⟩

set_option maxHeartbeats 1000000 in
theorem stp_call {w : World} {lo M G B N P o : Nat} {g g' : Gs} {c c' : Array Value} {t : TypeId} {s : Sm} {z : Int} {fn : Nat} (is : InF w w lo M G B N g P c t) (hs : SmAt c o B s) (h1 : s.pc = 0 ∧ fn = 23 ∨ s.pc = 2 ∧ fn = 25) (hz : c'[o + 3]? = some (.int .i64 z))
    (c0 : Calls Tryz.prog fn #[.pointer (some ⟨P, o, none⟩), .pointer (some ⟨M, 0, none⟩)] w fun r w' => r = .returned (.tuple #[]) ∧ InF w w' lo M G B N g' P c' t) :
    Calls Tryz.prog 9 #[.pointer (some ⟨P, o, none⟩), .pointer (some ⟨M, 0, none⟩)] w fun r w' => r = .returned (.bool (decide (z = 3))) ∧ InF w w' lo M G B N g' P c' t := by
  have lb := is.cell hs.b
  have l3 := is.cell hs.pc
  have hd : (z == 3) = decide (z = 3) := by by_cases e : z = 3 <;> simp [e]
  rw [← hd]
  rcases h1 with ⟨h1, rfl⟩ | ⟨h1, rfl⟩
  · rw [h1] at l3
    clear hs hd h1 is
    go_enter Tryz.func9, Tryz.ntmps9
    go_wp2_with (go_at_call 23; refine c0.mono ?_; rintro e w1 ⟨rfl, i1⟩; have m3 := i1.cell hz)
    go_ret
    exact ⟨rfl, i1⟩
  · rw [h1] at l3
    clear hs hd h1 is
    go_enter Tryz.func9, Tryz.ntmps9
    go_wp2_with (go_at_call 25; refine c0.mono ?_; rintro e w1 ⟨rfl, i1⟩; have m3 := i1.cell hz)
    go_ret
    exact ⟨rfl, i1⟩

theorem smPut_self {c : Array Value} {o B : Nat} {s : Sm} (h : SmAt c o B s) : smPut c o s = c := by
  have := put3 h s.pc
  rw [set_get h.pc] at this
  exact this

/-- A step of what stamps. -/
theorem stp_any {w : World} {lo M G B N P o : Nat} {g : Gs} {c : Array Value} {t : TypeId} {s : Sm} (is : InF w w lo M G B N g P c t) (hs : SmAt c o B s) (hk : s.Ok N) (hT : g.T + 1 < 4611686018427387904) :
    Calls Tryz.prog 9 #[.pointer (some ⟨P, o, none⟩), .pointer (some ⟨M, 0, none⟩)] w fun r w' => r = .returned (.bool (decide ((s.step g).1.pc = 3))) ∧ InF w w' lo M G B N (s.step g).2 P (smPut c o (s.step g).1) t := by
  have hz := hs.size
  have hpc := hk.pc
  have h4 : s.pc = 0 ∨ s.pc = 1 ∨ s.pc = 2 ∨ s.pc = 3 := by omega
  rcases h4 with h | h | h | h
  · have e : s.step g = ({ s with pc := if g.X.getD s.place 0 = 0 then 1 else 3 }, { g with T := g.T + 1 }) := by unfold Sm.step; rw [if_pos h]
    rw [e, put3 hs]
    exact stp_call is hs (.inl ⟨h, rfl⟩) (get_set (by omega)) (loadStamp_any is hs hk hT)
  · have e : s.step g = ({ s with pc := 2, clock := g.X.getD 0 0, point := g.k.now }, { g with T := g.T + 1 }) := by unfold Sm.step; rw [if_neg (by omega), if_pos h]
    rw [e]
    exact stp_1 is hs h hT (by have := hk.place; omega)
  · by_cases hv : g.X.getD s.place 0 = 0
    · have e : s.step g = ({ s with pc := 3 }, ⟨g.X.set s.place s.clock, g.T + 1, { g.k with born := upd g.k.born s.rc s.point }⟩) := by unfold Sm.step; rw [if_neg (by omega), if_neg (by omega), if_pos h, if_pos hv]
      rw [e, put3 hs]
      exact stp_call is hs (.inr ⟨h, rfl⟩) (get_set (by omega)) (swapStamp_yes is hs hk hT hv)
    · have e : s.step g = ({ s with pc := 3 }, { g with T := g.T + 1 }) := by unfold Sm.step; rw [if_neg (by omega), if_neg (by omega), if_pos h, if_neg hv]
      rw [e, put3 hs]
      exact stp_call is hs (.inr ⟨h, rfl⟩) (get_set (by omega)) (swapStamp_no is hs hk hT hv)
  · have e : s.step g = (s, g) := by unfold Sm.step; rw [if_neg (by omega), if_neg (by omega), if_neg (by omega)]
    rw [e, smPut_self hs]
    refine (stp_3 is hs h).mono fun r w' ⟨h1, h2⟩ => ?_
    subst h2
    exact ⟨by rw [h1]; simp [h], is⟩
end Go.Proofs.YtnegdabcjnhpdaaGreatDoor
/- Contracts of package field's newest: what finds a field's newest record, wherever it lies in a block. -/
namespace Go.Proofs.YtnegdabcjnhpdaaGreatDoor
open Go.RowKit
open Mm (IsMem MS touched Only)
open Hh (WT)

/-- Where a word of a slot's body stands; the slot that a word names. -/
def Cf.bd (K : Cf) (s i : Nat) : Nat := K.hd s + 2 + i
def nm (K : Cf) (W : Nat) : Int := if W ≤ K.S then (W : Int) - 1 else -1
theorem Cf.bd_lt (K : Cf) {s i : Nat} (hs : s < K.S) (hi : i < K.B) : K.bd s i < K.N := by
  have h1 : (s + 1) * (2 + K.B) ≤ K.S * (2 + K.B) := Nat.mul_le_mul_right _ hs
  rw [Nat.succ_mul] at h1
  unfold Cf.bd Cf.hd Cf.N nW; omega
theorem Cf.bd_4 (K : Cf) (s i : Nat) : 4 < K.bd s i := by unfold Cf.bd Cf.hd; omega
theorem body_at {K : Cf} (hK : K.Ok) {s i : Nat} (hs : s < K.S) (hi : i < K.B) {j : Int} (hj : (s : Int) = j) {u : Int} (hu : (i : Int) = u) (w : World) :
    Calls Tryz.prog 37 #[.agg K.cs, .int .i64 j, .int .i64 u] w fun e w' => e = .returned (.int .i64 (K.bd s i : Nat)) ∧ Below w.heap.size w w' := by
  subst hj hu
  have h := body_yes (s := K.S) (a := K.a) (c := K.C) (d := K.D) (g := K.g) (k := K.k) s i hK.r (be_iff.2 (by omega)) (be_iff.2 (by rw [hK.b]; omega)) w
  have e : fsI K.C K.D + (s : Int) * ssI K.a + 2 + (i : Int) = ((K.bd s i : Nat) : Int) := by
    unfold fsI ssI Cf.bd Cf.hd
    rw [hK.b]
    push_cast
    omega
  rw [e] at h
  exact h

theorem below_stored6 {B : Nat} {w0 w : World} {r : Nat} (h : Below B w0 w) (hr : B ≤ r) (v0 v1 v2 v3 v4 v5 : Value) :
    Below B w0 ((((((w.setCell ⟨r, 0, none⟩ v0).setCell ⟨r, 1, none⟩ v1).setCell ⟨r, 2, none⟩ v2).setCell ⟨r, 3, none⟩ v3).setCell ⟨r, 4, none⟩ v4).setCell ⟨r, 5, none⟩ v5) :=
  (((((h.setCell (p := ⟨r, 0, none⟩) hr v0).setCell (p := ⟨r, 1, none⟩) hr v1).setCell (p := ⟨r, 2, none⟩) hr v2).setCell (p := ⟨r, 3, none⟩) hr v3).setCell (p := ⟨r, 4, none⟩) hr v4).setCell (p := ⟨r, 5, none⟩) hr v5
set_option maxHeartbeats 400000 in
theorem named_any {K : Cf} (hK : K.Ok) (W : Nat) (hW : W < 18446744073709551616) (w : World) : Calls Tryz.prog 71 #[.agg K.cs, .int .u64 (W : Nat)] w fun e w' => e = .returned (.int .i64 (nm K W)) ∧ Below w.heap.size w w' := by
  have hS := hK.s64
  have hS1 : IntKind.u64.wrap (K.S : Int) = (K.S : Int) := by rw [IntKind.wrap_u64]; omega
  have bel := alloc_below w (.cells #[.int .i64 (K.S : Int), .int .i64 K.a, .int .i64 (K.C : Int), .int .i64 (K.D : Int), .int .i64 K.g, .int .i64 K.k] 30)
  unfold nm Cf.cs
  by_cases h : W ≤ K.S
  · rw [if_pos h]
    have h1 : ¬ (K.S : Int) < (W : Int) := by omega
    have h2 : IntKind.i64.wrap (W : Int) = (W : Int) := by rw [IntKind.wrap_i64]; omega
    go_enter Tryz.func71, Tryz.ntmps71
    go_wp2
    go_ret
    exact ⟨rfl, bel⟩
  · rw [if_neg h]
    have h1 : (K.S : Int) < (W : Int) := by omega
    go_enter Tryz.func71, Tryz.ntmps71
    go_wp2
    go_ret
    exact ⟨rfl, bel⟩

/-- A block of six cells, written anew. -/
def IsSix (w : World) (R : Nat) (v0 v1 v2 v3 v4 v5 : Value) (t : TypeId) : Prop := w.heap[R]? = some (.cells #[v0, v1, v2, v3, v4, v5] t (0, 0))
theorem IsSix.cells {w : World} {R : Nat} {v0 v1 v2 v3 v4 v5 : Value} {t : TypeId} (h : IsSix w R v0 v1 v2 v3 v4 v5 t) : w.cell? ⟨R, 0, none⟩ = some v0 ∧ w.cell? ⟨R, 1, none⟩ = some v1 ∧ w.cell? ⟨R, 2, none⟩ = some v2 ∧ w.cell? ⟨R, 3, none⟩ = some v3 ∧ w.cell? ⟨R, 4, none⟩ = some v4 ∧ w.cell? ⟨R, 5, none⟩ = some v5 := by
  have h' : w.heap[R]? = _ := h
  simp [World.cell?, h']
theorem IsSix.free {w : World} {R : Nat} {v0 v1 v2 v3 v4 v5 : Value} {t : TypeId} (h : IsSix w R v0 v1 v2 v3 v4 v5 t) (i : Nat) : w.frozen? ⟨R, i, none⟩ = false := by
  have h' : w.heap[R]? = _ := h
  simp [World.frozen?, h']
theorem IsSix.below {w w' : World} {R : Nat} {v0 v1 v2 v3 v4 v5 : Value} {t : TypeId} (h : IsSix w R v0 v1 v2 v3 v4 v5 t) (b : Below w.heap.size w w') : IsSix w' R v0 v1 v2 v3 v4 v5 t := (b.block R (lt_of_block h)).trans h
theorem IsSix.put {w : World} {R : Nat} {v0 v1 v2 v3 v4 v5 : Value} {t : TypeId} (h : IsSix w R v0 v1 v2 v3 v4 v5 t) (u0 u1 u2 u3 u4 u5 : Value) :
    IsSix ((((((w.setCell ⟨R, 0, none⟩ u0).setCell ⟨R, 1, none⟩ u1).setCell ⟨R, 2, none⟩ u2).setCell ⟨R, 3, none⟩ u3).setCell ⟨R, 4, none⟩ u4).setCell ⟨R, 5, none⟩ u5) R u0 u1 u2 u3 u4 u5 t := by
  have e1 := Mm.heap_setCell_at (o := 0) h u0
  have e2 := Mm.heap_setCell_at (o := 1) e1 u1
  have e3 := Mm.heap_setCell_at (o := 2) e2 u2
  have e4 := Mm.heap_setCell_at (o := 3) e3 u3
  have e5 := Mm.heap_setCell_at (o := 4) e4 u4
  have e6 := Mm.heap_setCell_at (o := 5) e5 u5
  show _ = _
  rw [e6]
  simp

set_option maxHeartbeats 1000000 in
theorem stampOf_as {s a c d g k ri z : Int} (pb : Option Addr) (cB : ∀ w, Calls Tryz.prog 37 #[.agg #[.int .i64 s, .int .i64 a, .int .i64 c, .int .i64 d, .int .i64 g, .int .i64 k], .int .i64 ri, .int .i64 1] w fun e w' => e = .returned (.int .i64 z) ∧ Below w.heap.size w w') (w : World) :
    Calls Tryz.prog 20 #[.agg #[.int .i64 s, .int .i64 a, .int .i64 c, .int .i64 d, .int .i64 g, .int .i64 k], .int .i64 ri, .pointer pb] w fun e w' => e = .returned (.agg #[.pointer pb, .int .i64 ri, .int .i64 z, .int .i64 0, .int .u64 0, .int .i64 0]) ∧ Below w.heap.size w w' := by
  have b1 := alloc_below w (.cells #[.int .i64 s, .int .i64 a, .int .i64 c, .int .i64 d, .int .i64 g, .int .i64 k] 30)
  have hh := cfg_new w s a c d g k
  have hz : (w.alloc (.cells #[.int .i64 s, .int .i64 a, .int .i64 c, .int .i64 d, .int .i64 g, .int .i64 k] 30)).heap.size = w.heap.size + 1 := by simp
  have b2 := alloc_below (w.alloc (.cells #[.int .i64 s, .int .i64 a, .int .i64 c, .int .i64 d, .int .i64 g, .int .i64 k] 30)) (.cells #[.pointer none, .int .i64 0, .int .i64 0, .int .i64 0, .int .u64 0, .int .i64 0] 70)
  have h2 : IsSix _ _ _ _ _ _ _ _ 70 := new_obj (w.alloc (.cells #[.int .i64 s, .int .i64 a, .int .i64 c, .int .i64 d, .int .i64 g, .int .i64 k] 30)) (.cells #[.pointer none, .int .i64 0, .int .i64 0, .int .i64 0, .int .u64 0, .int .i64 0] 70)
  rw [hz] at h2
  replace hh := hh.below b2
  have bel := seq_below b1 b2
  clear b1 b2 hz
  go_enter Tryz.func20, Tryz.ntmps20
  go_upto_region 1 with fail
  generalize (w.alloc (.cells #[.int .i64 s, .int .i64 a, .int .i64 c, .int .i64 d, .int .i64 g, .int .i64 k] 30)).alloc (.cells #[.pointer none, .int .i64 0, .int .i64 0, .int .i64 0, .int .u64 0, .int .i64 0] 70) = w2 at *
  obtain ⟨l0, l1, l2, l3, l4, l5⟩ := hh.cells
  go_wp2_with (go_at_call 37; refine (cB _).mono ?_; rintro e w3 ⟨rfl, b⟩; replace h2 := h2.below b; replace bel := seq_below bel b; obtain ⟨m0, m1, m2, m3, m4, m5⟩ := h2.cells; have f0 := h2.free 0; have f1 := h2.free 1; have f2 := h2.free 2; have f3 := h2.free 3; have f4 := h2.free 4; have f5 := h2.free 5)
  have zz := (h2.put (.pointer pb) (.int .i64 ri) (.int .i64 z) (.int .i64 0) (.int .u64 0) (.int .i64 0)).cells
  obtain ⟨z0, z1, z2, z3, z4, z5⟩ := zz
  have bel9 := below_stored6 bel (by omega : w.heap.size ≤ w.heap.size + 1) (.pointer pb) (.int .i64 ri) (.int .i64 z) (.int .i64 0) (.int .u64 0) (.int .i64 0)
  refine bodyPost_ret (v := .agg #[.pointer pb, .int .i64 ri, .int .i64 z, .int .i64 0, .int .u64 0, .int .i64 0]) (by simp [results, Tryz.results20, go_sem, z0, z1, z2, z3, z4, z5]) rfl ?_
  exact ⟨rfl, bel9⟩
end Go.Proofs.YtnegdabcjnhpdaaGreatDoor
