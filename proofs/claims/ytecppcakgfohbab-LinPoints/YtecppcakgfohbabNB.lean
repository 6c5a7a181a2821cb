/- The model's maps, and the model, as they lie in the heap. -/
import Derived.Test.YtecppcakgfohbabNA
import Derived.Maps.OwnSet
namespace Go.Proofs.Ytecppcakgfohbab
open Go.RowKit
open Go.Maps (Keyed)

theorem heap_put {w : World} {g o : Nat} {cur : Array Value} {e : TypeId} {fz : Nat × Nat} (h : w.heap[g]? = some (.cells cur e fz)) (v : Value) : (w.setCell ⟨g, o, none⟩ v).heap[g]? = some (.cells (cur.setIfInBounds o v) e fz) := by
  have hlt := lt_of_block h
  have h' : w.heap[g] = .cells cur e fz := by simpa [Array.getElem?_eq_getElem hlt] using h
  show (w.heap.modify g _)[g]? = _
  simp [Array.getElem?_modify, h', Array.getElem?_eq_getElem hlt]
theorem heap_side {w : World} {g o b : Nat} (hne : b ≠ g) (v : Value) : (w.setCell ⟨g, o, none⟩ v).heap[b]? = w.heap[b]? := Below.heap_setCell _ _ _ _ hne
theorem cells_free {w : World} {g : Nat} {c : Array Value} {e : TypeId} (h : w.heap[g]? = some (.cells c e (0, 0))) (i : Nat) : w.frozen? ⟨g, i, none⟩ = false := by simp [World.frozen?, h]
theorem info_parts {P : Program} {t : TypeId} {z : Value} {n b : Nat} (h : (P.info? t).map (fun i => (i.zero, i.size, i.bytes)) = some (some z, n, b)) : ∃ i, P.info? t = some i ∧ i.zero = some z ∧ i.size = n ∧ i.bytes = b := by
  cases hi : P.info? t with
  | none => rw [hi] at h; cases h
  | some i =>
    rw [hi] at h
    simp only [Option.map_some, Option.some.injEq, Prod.mk.injEq] at h
    exact ⟨i, rfl, h.1, h.2.1, h.2.2⟩
/-- Some blocks alone have changed; there may be new ones. -/
structure Chg (L : Nat → Prop) (w w' : World) : Prop where
  os : w'.os = w.os
  tape : w'.tape = w.tape
  output : w'.output = w.output
  size : w.heap.size ≤ w'.heap.size
  block : ∀ i, i < w.heap.size → ¬ L i → w'.heap[i]? = w.heap[i]?
theorem Chg.refl (L : Nat → Prop) (w : World) : Chg L w w := ⟨rfl, rfl, rfl, Nat.le_refl _, fun _ _ _ => rfl⟩
theorem Chg.of_below {L : Nat → Prop} {w w' : World} (h : Below w.heap.size w w') : Chg L w w' := ⟨h.os, h.tape, h.output, h.size, fun i hi _ => h.block i hi⟩
/-- A model's blocks, and those that came while it worked. -/
def Lup (L : Nat → Prop) (w w' : World) (i : Nat) : Prop := L i ∨ (w.heap.size ≤ i ∧ i < w'.heap.size)
theorem Chg.trans {L : Nat → Prop} {a b c : World} (h : Chg L a b) (k : Chg (Lup L a b) b c) : Chg L a c :=
  ⟨k.os.trans h.os, k.tape.trans h.tape, k.output.trans h.output, Nat.le_trans h.size k.size, fun i hi hn => (k.block i (Nat.lt_of_lt_of_le hi h.size) (fun q => by rcases q with q | ⟨q, _⟩; exact hn q; omega)).trans (h.block i hi hn)⟩
theorem Lup.trans {L : Nat → Prop} {a b c : World} (h1 : a.heap.size ≤ b.heap.size) (h2 : b.heap.size ≤ c.heap.size) {i : Nat} (h : Lup (Lup L a b) b c i) : Lup L a c i := by
  rcases h with (h | ⟨h, k⟩) | ⟨h, k⟩
  · exact .inl h
  · exact .inr ⟨h, by omega⟩
  · exact .inr ⟨by omega, k⟩
theorem Chg.below {L : Nat → Prop} {B : Nat} {w0 w w' : World} (h : Chg L w w') (h0 : Below B w0 w) (hL : ∀ i, L i → B ≤ i) (hB : B ≤ w0.heap.size) : Below B w0 w' :=
  ⟨h.os.trans h0.os, h.tape.trans h0.tape, h.output.trans h0.output, Nat.le_trans h0.size h.size, fun i hi => (h.block i (by have := h0.size; omega) (fun q => by have := hL i q; omega)).trans (h0.block i hi)⟩
theorem Chg.then_below {L : Nat → Prop} {a b c : World} (h : Chg L a b) (k : Below b.heap.size b c) : Chg L a c :=
  ⟨k.os.trans h.os, k.tape.trans h.tape, k.output.trans h.output, Nat.le_trans h.size k.size, fun i hi hn => (k.block i (by have := h.size; omega)).trans (h.block i hi hn)⟩
theorem Chg.setCell {L : Nat → Prop} {a w : World} (h : Chg L a w) {b o : Nat} (hb : L b ∨ a.heap.size ≤ b) (v : Value) : Chg L a (w.setCell ⟨b, o, none⟩ v) :=
  ⟨h.os, h.tape, h.output, by simpa [World.setCell] using h.size, fun i hi hn => by
    have hne : i ≠ b := fun e => by rcases hb with hb | hb; exact hn (e ▸ hb); omega
    exact (Below.heap_setCell _ _ _ _ hne).trans (h.block i hi hn)⟩
theorem Chg.grown {L : Nat → Prop} {a w w' : World} {g : Option Nat} (h : Chg L a w) (k : w.grownBy w' g) (hg : ∀ x, g = some x → L x ∨ a.heap.size ≤ x) : Chg L a w' :=
  ⟨k.os.trans h.os, k.tape.trans h.tape, k.output.trans h.output, Nat.le_trans h.size k.size, fun i hi hn => (k.block i (by have := h.size; omega) (fun e => by rcases hg i e.symm with q | q; exact hn q; omega)).trans (h.block i hi hn)⟩
theorem Chg.drew {L : Nat → Prop} {a w : World} (h : Chg L a w) : Chg L a w.drew := h.then_below (Below.refl _ _).drew
theorem Chg.widen {L : Nat → Prop} {w0 w w' : World} (h : Chg L w w') (_ : Below w0.heap.size w0 w) : Chg (Lup L w0 w) w w' := ⟨h.os, h.tape, h.output, h.size, fun i hi hn => h.block i hi (fun q => hn (.inl q))⟩
theorem RdIs.chg {FL FL' : Nat → Prop} {w w' : World} {ad : Option Addr} {L : List Int} (h : RdIs FL w ad L) (c : Chg FL w w') (hf : ∀ i, i < w.heap.size → FL' i → FL i) : RdIs FL' w' ad L := fun i x hx => by
  obtain ⟨g, off, h1, h2, h3⟩ := h i x hx
  exact ⟨g, off, h1, ⟨Nat.lt_of_lt_of_le h2.1 c.size, fun q => h2.2 (hf g h2.1 q)⟩, (World.cell?_of_block (a := ⟨g, off + i, none⟩) (c.block g h2.1 h2.2)).trans h3⟩
theorem RdUs.chg {FL FL' : Nat → Prop} {w w' : World} {ad : Option Addr} {L : List Nat} (h : RdUs FL w ad L) (c : Chg FL w w') (hf : ∀ i, i < w.heap.size → FL' i → FL i) : RdUs FL' w' ad L := fun i x hx => by
  obtain ⟨g, off, h1, h2, h3⟩ := h i x hx
  exact ⟨g, off, h1, ⟨Nat.lt_of_lt_of_le h2.1 c.size, fun q => h2.2 (hf g h2.1 q)⟩, (World.cell?_of_block (a := ⟨g, off + i, none⟩) (c.block g h2.1 h2.2)).trans h3⟩
theorem RdHl.chg {FL FL' : Nat → Prop} {w w' : World} {ad : Option Addr} {L : List Hl} (h : RdHl FL w ad L) (c : Chg FL w w') (hf : ∀ i, i < w.heap.size → FL' i → FL i) : RdHl FL' w' ad L := fun i x hx => by
  obtain ⟨g, off, h1, h2, h3, h4, h5⟩ := h i x hx
  have e := c.block g h2.1 h2.2
  exact ⟨g, off, h1, ⟨Nat.lt_of_lt_of_le h2.1 c.size, fun q => h2.2 (hf g h2.1 q)⟩, (World.cell?_of_block (a := ⟨g, off + i * 3, none⟩) e).trans h3, (World.cell?_of_block (a := ⟨g, off + i * 3 + 1, none⟩) e).trans h4, (World.cell?_of_block (a := ⟨g, off + i * 3 + 2, none⟩) e).trans h5⟩
theorem RdLs.chg {FL FL' : Nat → Prop} {w w' : World} {ad : Option Addr} {F : List (List Int)} (h : RdLs FL w ad F) (c : Chg FL w w') (hf : ∀ i, i < w.heap.size → FL' i → FL i) : RdLs FL' w' ad F := fun i L hx => by
  obtain ⟨g, off, a, cp, h1, h2, h3, h4, h5⟩ := h i L hx
  exact ⟨g, off, a, cp, h1, ⟨Nat.lt_of_lt_of_le h2.1 c.size, fun q => h2.2 (hf g h2.1 q)⟩, (World.cell?_of_block (a := ⟨g, off + i, none⟩) (c.block g h2.1 h2.2)).trans h3, h4.chg c hf, h5⟩
theorem StOk.chg {FL FL' : Nat → Prop} {w w' : World} {S : Sc} {X : Sx} (h : StOk FL w S X) (c : Chg FL w w') (hf : ∀ i, i < w.heap.size → FL' i → FL i) : StOk FL' w' S X :=
  ⟨h.nF, h.nH, h.nW, h.nM, h.nG, h.bF, h.bH, h.bW, h.bM, h.bG, h.F.chg c hf, h.H.chg c hf, h.W.chg c hf, h.M.chg c hf, h.G.chg c hf⟩
theorem Lup.back {L : Nat → Prop} {w w' : World} : ∀ i, i < w.heap.size → Lup L w w' i → L i := fun i hi h => by
  rcases h with h | ⟨h, _⟩
  · exact h
  · omega

theorem Lup.under {L : Nat → Prop} {B : Nat} {w0 w w' : World} (b : Below B w0 w) {i : Nat} (h : Lup L w w' i) : Lup L w0 w' i := by
  rcases h with h | ⟨h, k⟩
  · exact .inl h
  · exact .inr ⟨Nat.le_trans b.size h, k⟩
theorem wfU {h : Nat} (hh : h < 18446744073709551616) : (Lit.int .u64 (h : Nat)).wf = true := by
  simp only [Lit.wf, Bool.and_eq_true, decide_eq_true_eq]
  exact ⟨show (0 : Int) ≤ _ by omega, show (h : Int) ≤ 18446744073709551615 by omega⟩
theorem Try.kU : Keyed Try.prog 37 := Maps.int_keyed Try.underlying37
theorem Try.kI : Keyed Try.prog 3 := Maps.int_keyed Try.underlying3
theorem zero3 (w : World) : (zeroValue 3).run Try.prog w = .ok (.int .i64 0) w := by kernel_rfl
theorem zeroE (w : World) : (zeroValue 88).run Try.prog w = .ok (.agg #[]) w := by kernel_rfl
theorem wf0 : (Lit.int .i64 0).wf = true := by decide
theorem u64_ne {h q : Nat} (hne : h ≠ q) : Lit.int .u64 (h : Int) ≠ Lit.int .u64 (q : Int) := fun e => hne (by injection e with _ e; omega)

/-- What a client holds, as a map: at most n entries. -/
def IsHd (w : World) (b n : Nat) (k : Int) (H : List Hl) : Prop :=
  ∃ D, w.ownsMap (H := Unit) Try.prog 37 (plainElem Try.prog 3) b n D ∧ Maps.size D = heldF k H ∧
    ∀ h : Nat, h < 18446744073709551616 → (Maps.has D (.int .u64 (h : Nat)) = decide (0 ≤ nodeF k h H)) ∧ (0 ≤ nodeF k h H → D.atKey (.int .u64 (h : Nat)) (.lit (.int .i64 0)) = .lit (.int .i64 (nodeF k h H)))
theorem IsHd.lt {w : World} {b n : Nat} {k : Int} {H : List Hl} (h : IsHd w b n k H) : b < w.heap.size := by obtain ⟨D, h, _⟩ := h; exact h.lt
theorem IsHd.map {w : World} {b n : Nat} {k : Int} {H : List Hl} (h : IsHd w b n k H) : ∃ es c, w.heap[b]? = some (.map es c) := by obtain ⟨D, ⟨es, c, h, _⟩, _⟩ := h; exact ⟨es, c, h⟩
theorem IsHd.kept {w w' : World} {b n : Nat} {k : Int} {H : List Hl} (h : IsHd w b n k H) (e : w'.heap[b]? = w.heap[b]?) : IsHd w' b n k H := by
  obtain ⟨D, ⟨es, c, h1, h2⟩, h3⟩ := h
  exact ⟨D, ⟨es, c, e.trans h1, h2⟩, h3⟩
theorem IsHd.look {w : World} {b n : Nat} {k : Int} {H : List Hl} (h : IsHd w b n k H) {q : Nat} (hq : q < 18446744073709551616) :
    (Instr.lookup 81 (.map (some b)) (.int .u64 (q : Nat)) true).run Try.prog w = .ok (.tuple #[.int .i64 (if 0 ≤ nodeF k q H then nodeF k q H else 0), .bool (decide (0 ≤ nodeF k q H))]) w := by
  obtain ⟨D, h1, _, h3⟩ := h
  obtain ⟨v, ps, hrun, hv⟩ := h1.look_ok Try.kU Try.underlying81 (zero3 w) (plainElem_int Try.underlying3 wf0) (Maps.keyOf_int_mk Try.underlying37 (wfU hq))
  obtain ⟨c, rfl, hc, _⟩ := plainElem_int_inv Try.underlying3 hv
  obtain ⟨h4, h5⟩ := h3 q hq
  rw [hrun, h4]
  have e := congrArg Prod.fst hc
  simp only at e
  by_cases h0 : 0 ≤ nodeF k q H
  · rw [h5 h0] at e
    simp only [DataW.lit.injEq, Lit.int.injEq, true_and] at e
    rw [if_pos h0, e]
  · rw [if_neg h0]
    rw [Maps.atKey_of_not_has (by rw [h4]; exact decide_eq_false h0)] at e
    simp only [DataW.lit.injEq, Lit.int.injEq, true_and] at e
    rw [← e]
theorem IsHd.len {w : World} {b n : Nat} {k : Int} {H : List Hl} (h : IsHd w b n k H) (ty : TypeId) : (Builtin.len_ #[81] ty #[.map (some b)]).run Try.prog w = .ok (.int .i64 (heldF k H : Nat)) w := by
  obtain ⟨D, h1, h2, _⟩ := h
  rw [h1.len Try.underlying81 ty, h2]
theorem IsHd.made (w : World) (k : Int) : IsHd (w.alloc (.map #[] 0)) w.heap.size 0 k [] :=
  ⟨_, World.ownsMap_made _ _ _ _, rfl, fun h _ => ⟨rfl, fun h0 => by simp [nodeF] at h0⟩⟩
theorem IsHd.other {w : World} {b n : Nat} {k : Int} {H H' : List Hl} (h : IsHd w b n k H) (h1 : ∀ q, nodeF k q H' = nodeF k q H) (h2 : heldF k H' = heldF k H) {n' : Nat} (hn : n ≤ n') : IsHd w b n' k H' := by
  obtain ⟨D, h3, h4, h5⟩ := h
  exact ⟨D, h3.mono hn, by rw [h4, h2], fun q hq => by rw [h1 q]; exact h5 q hq⟩
/-- A client holds one more. -/
theorem IsHd.add {w : World} {b n : Nat} {k : Int} {H : List Hl} (h : IsHd w b n k H) (hn : n < 9223372036854775807) {q : Nat} (hq : q < 18446744073709551616) (hf : ∀ y ∈ H, y.h ≠ q) {nd : Int} (h0 : 0 ≤ nd) (hw : (Lit.int .i64 nd).wf = true) :
    ∃ w', (Instr.mapUpdate 81 (.map (some b)) (.int .u64 (q : Nat)) (.int .i64 nd)).run Try.prog w = .ok () w' ∧ IsHd w' b (n + 1) k (H ++ [⟨k, q, nd⟩]) ∧ w.grownBy w' (some b) := by
  obtain ⟨D, h1, h2, h3⟩ := h
  obtain ⟨w', hr, h4, h5⟩ := h1.update Try.kU Try.underlying81 (by unfold maxLen; omega) (Maps.keyOf_int_mk Try.underlying37 (wfU hq)) (plainElem_int Try.underlying3 hw)
  have hm := h1.isMap
  have hk : WideAt.IsKeyLit (.int .u64 (q : Int)) := trivial
  have hno : Maps.has D (.int .u64 (q : Int)) = false := by rw [(h3 q hq).1, nodeF_none hf]; rfl
  refine ⟨w', hr, ⟨_, h4, ?_, fun p hp => ?_⟩, h5⟩
  · rw [Maps.size_put (h1.tidy Try.kU), hno, h2, heldF_add, if_pos rfl]
    rfl
  · by_cases e : p = q
    · subst e
      rw [nodeF_add_same hf, Maps.has_put_same hm hk, Maps.atKey_put_same hm hk]
      exact ⟨by rw [decide_eq_true h0], fun _ => rfl⟩
    · rw [nodeF_add_other (fun z => e z.2.symm), Maps.has_put_other (u64_ne e), Maps.atKey_put_other (u64_ne e)]
      exact h3 p hp
/-- A client holds one less. -/
theorem IsHd.del {w : World} {b n : Nat} {k : Int} {H : List Hl} (h : IsHd w b n k H) {q : Nat} (hq : q < 18446744073709551616) (hd : (H.map (·.h)).Nodup) (h0 : 0 ≤ nodeF k q H) (ty : TypeId) :
    ∃ w', (Builtin.delete_ #[81, 37] ty #[.map (some b), .int .u64 (q : Nat)]).run Try.prog w = .ok (.tuple #[]) w' ∧ IsHd w' b n k (dropF k q H) ∧ w.grownBy w' (some b) := by
  obtain ⟨D, h1, h2, h3⟩ := h
  obtain ⟨w', hr, h4, h5⟩ := h1.drop Try.kU Try.underlying81 (Maps.keyOf_int_mk Try.underlying37 (wfU hq)) ty
  have hyes : Maps.has D (.int .u64 (q : Int)) = true := by rw [(h3 q hq).1]; exact decide_eq_true h0
  refine ⟨w', hr, ⟨_, h4, ?_, fun p hp => ?_⟩, h5.grown⟩
  · have e1 := Maps.size_del (k := .int .u64 (q : Int)) (h1.tidy Try.kU)
    rw [hyes, if_pos rfl, h2] at e1
    have e2 := heldF_drop2 (k := k) (k' := k) (h := q) hd (nodeF_mem h0)
    rw [if_pos rfl] at e2
    omega
  · rw [nodeF_drop]
    by_cases e : p = q
    · subst e
      rw [if_pos ⟨rfl, rfl⟩, Maps.has_del_same]
      exact ⟨rfl, fun z => absurd z (by decide)⟩
    · rw [if_neg (fun z => e z.2), Maps.has_del_other (u64_ne e), Maps.atKey_del_other (u64_ne e)]
      exact h3 p hp

/-- The handles that were given. -/
def IsGv (w : World) (b n : Nat) (G : List Nat) : Prop :=
  ∃ D, w.ownsMap (H := Unit) Try.prog 37 unitElem b n D ∧ ∀ h : Nat, h < 18446744073709551616 → Maps.has D (.int .u64 (h : Nat)) = decide (h ∈ G)
theorem IsGv.lt {w : World} {b n : Nat} {G : List Nat} (h : IsGv w b n G) : b < w.heap.size := by obtain ⟨D, h, _⟩ := h; exact h.lt
theorem IsGv.map {w : World} {b n : Nat} {G : List Nat} (h : IsGv w b n G) : ∃ es c, w.heap[b]? = some (.map es c) := by obtain ⟨D, ⟨es, c, h, _⟩, _⟩ := h; exact ⟨es, c, h⟩
theorem IsGv.kept {w w' : World} {b n : Nat} {G : List Nat} (h : IsGv w b n G) (e : w'.heap[b]? = w.heap[b]?) : IsGv w' b n G := by
  obtain ⟨D, ⟨es, c, h1, h2⟩, h3⟩ := h
  exact ⟨D, ⟨es, c, e.trans h1, h2⟩, h3⟩
theorem IsGv.mono {w : World} {b n n' : Nat} {G : List Nat} (h : IsGv w b n G) (hn : n ≤ n') : IsGv w b n' G := by
  obtain ⟨D, h1, h3⟩ := h
  exact ⟨D, h1.mono hn, h3⟩
theorem IsGv.made (w : World) : IsGv (w.alloc (.map #[] 0)) w.heap.size 0 [] := ⟨_, World.ownsMap_made _ _ _ _, fun _ _ => rfl⟩
theorem IsGv.look {w : World} {b n : Nat} {G : List Nat} (h : IsGv w b n G) {q : Nat} (hq : q < 18446744073709551616) :
    (Instr.lookup 78 (.map (some b)) (.int .u64 (q : Nat)) true).run Try.prog w = .ok (.tuple #[.agg #[], .bool (decide (q ∈ G))]) w := by
  obtain ⟨D, h1, h3⟩ := h
  obtain ⟨v, ps, hrun, hv⟩ := h1.look_ok Try.kU Try.underlying78 (zeroE w) unitElem_mk (Maps.keyOf_int_mk Try.underlying37 (wfU hq))
  obtain ⟨rfl, _⟩ := unitElem_inv hv
  rw [hrun, h3 q hq]
theorem IsGv.add {w : World} {b n : Nat} {G : List Nat} (h : IsGv w b n G) (hn : n < 9223372036854775807) {q : Nat} (hq : q < 18446744073709551616) :
    ∃ w', (Instr.mapUpdate 78 (.map (some b)) (.int .u64 (q : Nat)) (.agg #[])).run Try.prog w = .ok () w' ∧ IsGv w' b (n + 1) (G ++ [q]) ∧ w.grownBy w' (some b) := by
  obtain ⟨D, h1, h3⟩ := h
  obtain ⟨w', hr, h4, h5⟩ := h1.update Try.kU Try.underlying78 (by unfold maxLen; omega) (Maps.keyOf_int_mk Try.underlying37 (wfU hq)) unitElem_mk
  have hm := h1.isMap
  have hk : WideAt.IsKeyLit (.int .u64 (q : Int)) := trivial
  refine ⟨w', hr, ⟨_, h4, fun p hp => ?_⟩, h5⟩
  by_cases e : p = q
  · subst e
    rw [Maps.has_put_same hm hk, decide_eq_true (by simp)]
  · rw [Maps.has_put_other (u64_ne e), h3 p hp]
    simp [e]
end Go.Proofs.Ytecppcakgfohbab
