/- Copy: the program's. -/
import Derived.Test.YtcccmmhpingmnaaVE
namespace Go.Proofs.Ytcccmmhpingmnaa
open Go.RowKit

/-- A copy under way: j rows, i maps and l rows to come are its own. -/
structure Cpy (w wr : World) (B' : Nat) (C : Cg) (n : Nat) (X : Sx) (m : Md) (vN' : Value) (rows : List Value) (Bc' bG' cap' : Nat) (x' : Array Value) (bk : Nat → Nat) (ck : Nat → Value) (j i l : Nat) : Prop where
  bel : Below w.heap.size w wr
  head : wr.heap[B']? = some (.cells #[.int .i64 C.s, .int .i64 C.a, .int .i64 (C.c : Nat), .int .i64 C.d, .int .i64 C.g, .int .i64 C.k, vN', .slice (some ⟨Bc', 0, none⟩) C.c cap', .map (some bG')] 69 (0, 0))
  cl : wr.heap[Bc']? = some (.cells (clC x' bk ck (fun k => wkF X k) C.c) 72 (0, 0))
  gv : IsGv wr bG' n X.G
  lt : w.heap.size ≤ B' ∧ w.heap.size ≤ Bc' ∧ w.heap.size ≤ bG'
  nodes : wr.ownsRow w.heap.size 57 1 vN' X.F.length rows
  rnew : ∀ (a : Nat) K u, a < j → X.F[a]? = some K → rows[a]? = some u → IsZ wr u K ∧ ∀ g, u.ownBlock = some g → w.heap.size ≤ g
  rold : ∀ a, j ≤ a → rows[a]? = m.rows[a]?
  rdis : ∀ (a b : Nat) u u' g, a < j → b < j → rows[a]? = some u → rows[b]? = some u' → u.ownBlock = some g → u'.ownBlock = some g → a = b
  knew : ∀ k : Nat, k < i → IsHd wr (bk k) n k X.H ∧ w.heap.size ≤ bk k ∧ bk k ≠ bG'
  kold : ∀ k, i ≤ k → bk k = m.bk k
  kinj : ∀ k k', k < i → k' < i → bk k = bk k' → k = k'
  cnew : ∀ k : Nat, k < l → IsZ wr (ck k) (cmF X k) ∧ (∀ g, (ck k).ownBlock = some g → w.heap.size ≤ g) ∧ ∀ (a : Nat) u g, a < j → rows[a]? = some u → u.ownBlock = some g → (ck k).ownBlock ≠ some g
  cold : ∀ k, l ≤ k → ck k = m.ck k
/-- A copy that is whole. -/
theorem Cpy.whole {w wr : World} {B' : Nat} {C : Cg} {n : Nat} {X : Sx} {m : Md} {vN' : Value} {rows : List Value} {Bc' bG' cap' : Nat} {x' : Array Value} {bk : Nat → Nat} {ck : Nat → Value} (h : Cpy w wr B' C n X m vN' rows Bc' bG' cap' x' bk ck X.F.length C.c C.c) (hn : X.W.length = C.c) : IsM wr B' (Lb w.heap.size wr) C n X := by
  have len : rows.length = X.F.length := by have := h.nodes.1; omega
  have rl : ∀ (a : Nat) u, rows[a]? = some u → a < X.F.length := fun a u e => by have := (List.getElem?_eq_some_iff.1 e).1; omega
  have rz : ∀ (a : Nat) u, rows[a]? = some u → ∃ K, X.F[a]? = some K ∧ IsZ wr u K ∧ ∀ g, u.ownBlock = some g → w.heap.size ≤ g := fun a u e => by
    have ha := rl a u e
    exact ⟨_, List.getElem?_eq_getElem ha, h.rnew a _ u ha (List.getElem?_eq_getElem ha) e⟩
  exact ⟨⟨vN', rows, Bc', bG', bk, ck, cap', x'⟩, {
    nc := hn
    head := h.head
    cl := h.cl
    nodes := ⟨h.nodes.1, by
      rcases h.nodes.2 with q | ⟨g, cap, cur, e, _, rest⟩
      · exact .inl q
      · exact .inr ⟨g, cap, cur, e, Nat.zero_le _, rest⟩⟩
    row := fun a K r hK hr => (h.rnew a K r (rl a r hr) hK hr).1
    dis := fun a b r r' g h1 h2 => h.rdis a b r r' g (rl a r h1) (rl b r' h2) h1 h2
    hs := fun k hk => (h.knew k hk).1
    gv := h.gv
    ms := fun k hk => (h.cnew k hk).1
    d0 := fun r hr g hg k hk => by
      obtain ⟨a, ha⟩ := List.getElem?_of_mem hr
      exact (h.cnew k hk).2.2 a r g (rl a r ha) ha hg
    mb := ⟨fun a b ha hb e => h.kinj a b ha hb e, fun k hk => (h.knew k hk).2.2⟩
    LB := ⟨⟨h.lt.1, lt_of_block h.head⟩, ⟨h.lt.2.1, lt_of_block h.cl⟩, fun k hk => ⟨(h.knew k hk).2.1, (h.knew k hk).1.lt⟩, ⟨h.lt.2.2, h.gv.lt⟩⟩
    LN := fun g hg => h.nodes.lt g hg
    LR := fun r hr g hg => by
      obtain ⟨a, ha⟩ := List.getElem?_of_mem hr
      obtain ⟨K, _, hz, hb⟩ := rz a r ha
      exact ⟨hb g hg, hz.lt hg⟩
    LM := fun k hk g hg => ⟨(h.cnew k hk).2.1 g hg, (h.cnew k hk).1.lt hg⟩ }⟩
theorem Cpy.below {w wr : World} {B' : Nat} {C : Cg} {n : Nat} {X : Sx} {m : Md} {vN' : Value} {rows : List Value} {Bc' bG' cap' : Nat} {x' : Array Value} {bk : Nat → Nat} {ck : Nat → Value} {j i l : Nat} (h : Cpy w wr B' C n X m vN' rows Bc' bG' cap' x' bk ck j i l) {wr2 : World} (b : Below wr.heap.size wr wr2) : Cpy w wr2 B' C n X m vN' rows Bc' bG' cap' x' bk ck j i l where
  bel := seq_below h.bel b
  head := (b.block _ (lt_of_block h.head)).trans h.head
  cl := (b.block _ (lt_of_block h.cl)).trans h.cl
  gv := h.gv.kept (b.block _ h.gv.lt)
  lt := h.lt
  nodes := own_kept h.nodes fun g hg => b.block g (h.nodes.lt g hg).2
  rnew := fun a K u ha hK hu => ⟨(h.rnew a K u ha hK hu).1.below b, (h.rnew a K u ha hK hu).2⟩
  rold := h.rold
  rdis := h.rdis
  knew := fun k hk => ⟨(h.knew k hk).1.kept (b.block _ (h.knew k hk).1.lt), (h.knew k hk).2⟩
  kold := h.kold
  kinj := h.kinj
  cnew := fun k hk => ⟨(h.cnew k hk).1.below b, (h.cnew k hk).2⟩
  cold := h.cold
/-- A row has been stored. -/
theorem Cpy.row {w wr : World} {B' : Nat} {C : Cg} {n : Nat} {X : Sx} {m : Md} {gN cp : Nat} {rows : List Value} {Bc' bG' cap' : Nat} {x' : Array Value} {bk : Nat → Nat} {ck : Nat → Value} {j : Nat} (h : Cpy w wr B' C n X m (.slice (some ⟨gN, 0, none⟩) X.F.length cp) rows Bc' bG' cap' x' bk ck j 0 0) (hj : j < X.F.length) {K : List Int} (hK : X.F[j]? = some K) {v : Value} (hz : IsZ wr v K) (hv : ∀ g, v.ownBlock = some g → w.heap.size ≤ g) (hf : ∀ (a : Nat) u g, a < j → rows[a]? = some u → u.ownBlock = some g → v.ownBlock ≠ some g) :
    Cpy w (wr.setCell ⟨gN, j, none⟩ v) B' C n X m (.slice (some ⟨gN, 0, none⟩) X.F.length cp) (rows.set j v) Bc' bG' cap' x' bk ck (j + 1) 0 0 := by
  have hlen : rows.length = X.F.length := by have := h.nodes.1; omega
  rcases h.nodes.2 with ⟨q, _⟩ | ⟨g, cap, cur, e, hb, hg, h2, h3, h4, h5⟩
  · cases q
  simp only [Value.slice.injEq, Option.some.injEq, Addr.mk.injEq] at e
  obtain ⟨⟨rfl, -, -⟩, -, rfl⟩ := e
  have st : ∀ q, q ≠ gN → (wr.setCell ⟨gN, j, none⟩ v).heap[q]? = wr.heap[q]? := fun q hq => Below.heap_setCell _ _ _ _ hq
  have nec : ∀ (q : Nat) (c : Array Value) (t : TypeId) (f : Nat × Nat), wr.heap[q]? = some (.cells c t f) → t ≠ 57 → q ≠ gN := fun q c t f hq ht => ne_cells hq hg ht
  have nem : ∀ q, (∃ es c, wr.heap[q]? = some (.map es c)) → q ≠ gN := fun q hq e => ne_map hg hq e.symm
  have hp := heap_put (o := j) hg v
  have keepZ : ∀ (vv : Value) (xs : List Int), IsZ wr vv xs → IsZ (wr.setCell ⟨gN, j, none⟩ v) vv xs := fun vv xs hz => hz.kept fun q hq => by
    obtain ⟨c, hc⟩ := hz.cells hq
    exact st q (nec _ _ _ _ hc (by decide))
  have get : ∀ (a : Nat) u, (rows.set j v)[a]? = some u → (a = j ∧ u = v) ∨ (a ≠ j ∧ rows[a]? = some u) := fun a u hu => by
    rw [List.getElem?_set] at hu
    by_cases ea : j = a
    · rw [if_pos ea, if_pos (by omega)] at hu
      exact .inl ⟨ea.symm, (Option.some.inj hu).symm⟩
    · rw [if_neg ea] at hu
      exact .inr ⟨Ne.symm ea, hu⟩
  exact {
    bel := h.bel.setCell hb v
    head := (st _ (nec _ _ _ _ h.head (by decide))).trans h.head
    cl := (st _ (nec _ _ _ _ h.cl (by decide))).trans h.cl
    gv := h.gv.kept (st _ (nem _ h.gv.map))
    lt := h.lt
    nodes := by
      refine ⟨by rw [List.length_set]; exact h.nodes.1, .inr ⟨gN, cp, _, rfl, hb, hp, h2, h3, by simpa using h4, ?_⟩⟩
      rw [Array.toList_setIfInBounds, List.take_set, h5]
    rnew := fun a K' u ha hK' hu => by
      rcases get a u hu with ⟨rfl, rfl⟩ | ⟨ne, hu'⟩
      · rw [hK] at hK'
        obtain rfl := Option.some.inj hK'
        exact ⟨keepZ _ _ hz, hv⟩
      · have := h.rnew a K' u (by omega) hK' hu'
        exact ⟨keepZ _ _ this.1, this.2⟩
    rold := fun a ha => by rw [List.getElem?_set, if_neg (by omega)]; exact h.rold a (by omega)
    rdis := fun a b u u' g ha hb h1 h2 h3 h4 => by
      rcases get a u h1 with ⟨rfl, rfl⟩ | ⟨na, h1'⟩
      · rcases get b u' h2 with ⟨e, rfl⟩ | ⟨nb, h2'⟩
        · exact e.symm
        · exact absurd h3 (hf b u' g (by omega) h2' h4)
      · rcases get b u' h2 with ⟨rfl, rfl⟩ | ⟨nb, h2'⟩
        · exact absurd h4 (hf a u g (by omega) h1' h3)
        · exact h.rdis a b u u' g (by omega) (by omega) h1' h2' h3 h4
    knew := fun k hk => absurd hk (by omega)
    kold := h.kold
    kinj := fun k k' hk => absurd hk (by omega)
    cnew := fun k hk => absurd hk (by omega)
    cold := h.cold }
theorem clC_map (x : Array Value) (bk : Nat → Nat) (ck : Nat → Value) (wk : Nat → Nat) {c k : Nat} (hk : k < c) (b : Nat) : (clC x bk ck wk c).setIfInBounds (k * 3) (.map (some b)) = clC x (fun i => if i = k then b else bk i) ck wk c := by
  apply Array.ext_getElem?
  intro q
  rw [Array.getElem?_setIfInBounds, clC_at, clC_at, clC_size]
  by_cases e : k * 3 = q
  · subst e
    rw [if_pos rfl, if_pos (by omega), if_pos (by omega), if_pos (by omega), if_pos (by omega)]
  · rw [if_neg e]
    by_cases hq : q < 3 * c
    · rw [if_pos hq, if_pos hq]
      by_cases h0 : q % 3 = 0
      · rw [if_pos h0, if_pos h0, if_neg (by omega)]
      · rw [if_neg h0, if_neg h0]
    · rw [if_neg hq, if_neg hq]
/-- A client's map has been stored. -/
theorem Cpy.map {w wr : World} {B' : Nat} {C : Cg} {n : Nat} {X : Sx} {m : Md} {vN' : Value} {rows : List Value} {Bc' bG' cap' : Nat} {x' : Array Value} {bk : Nat → Nat} {ck : Nat → Value} {j i l : Nat} (h : Cpy w wr B' C n X m vN' rows Bc' bG' cap' x' bk ck j i l) (hi : i < C.c) {b : Nat} (hb : IsHd wr b n i X.H) (hbs : w.heap.size ≤ b) (hf : ∀ k, k < i → bk k ≠ b) (hg : b ≠ bG') :
    Cpy w (wr.setCell ⟨Bc', i * 3, none⟩ (.map (some b))) B' C n X m vN' rows Bc' bG' cap' x' (fun k => if k = i then b else bk k) ck j (i + 1) l := by
  have st : ∀ q, q ≠ Bc' → (wr.setCell ⟨Bc', i * 3, none⟩ (.map (some b))).heap[q]? = wr.heap[q]? := fun q hq => Below.heap_setCell _ _ _ _ hq
  have nec : ∀ (q : Nat) (c : Array Value) (t : TypeId) (f : Nat × Nat), wr.heap[q]? = some (.cells c t f) → t ≠ 72 → q ≠ Bc' := fun q c t f hq ht => ne_cells hq h.cl ht
  have nem : ∀ q, (∃ es c, wr.heap[q]? = some (.map es c)) → q ≠ Bc' := fun q hq e => ne_map h.cl hq e.symm
  have keepZ : ∀ (vv : Value) (xs : List Int), IsZ wr vv xs → IsZ (wr.setCell ⟨Bc', i * 3, none⟩ (.map (some b))) vv xs := fun vv xs hz => hz.kept fun q hq => by
    obtain ⟨c, hc⟩ := hz.cells hq
    exact st q (nec _ _ _ _ hc (by decide))
  have hp := heap_put (o := i * 3) h.cl (.map (some b))
  rw [clC_map _ _ _ _ hi] at hp
  exact {
    bel := h.bel.setCell h.lt.2.1 _
    head := (st _ (nec _ _ _ _ h.head (by decide))).trans h.head
    cl := hp
    gv := h.gv.kept (st _ (nem _ h.gv.map))
    lt := h.lt
    nodes := own_kept h.nodes fun g hg => by
      obtain ⟨c, hc⟩ := own_cells h.nodes hg
      exact st g (nec _ _ _ _ hc (by decide))
    rnew := fun a K u ha hK hu => ⟨keepZ _ _ (h.rnew a K u ha hK hu).1, (h.rnew a K u ha hK hu).2⟩
    rold := h.rold
    rdis := h.rdis
    knew := fun k hk => by
      show IsHd _ (if k = i then b else bk k) n k X.H ∧ w.heap.size ≤ (if k = i then b else bk k) ∧ (if k = i then b else bk k) ≠ bG'
      by_cases e : k = i
      · subst e
        rw [if_pos rfl]
        exact ⟨hb.kept (st _ (nem _ hb.map)), hbs, hg⟩
      · rw [if_neg e]
        have := h.knew k (by omega)
        exact ⟨this.1.kept (st _ (nem _ this.1.map)), this.2⟩
    kold := fun k hk => by show (if k = i then b else bk k) = _; rw [if_neg (by omega)]; exact h.kold k (by omega)
    kinj := fun k k' hk hk' e => by
      have e' : (if k = i then b else bk k) = (if k' = i then b else bk k') := e
      by_cases e1 : k = i
      · by_cases e2 : k' = i
        · omega
        · rw [if_pos e1, if_neg e2] at e'; exact absurd e'.symm (hf k' (by omega))
      · by_cases e2 : k' = i
        · rw [if_neg e1, if_pos e2] at e'; exact absurd e' (hf k (by omega))
        · rw [if_neg e1, if_neg e2] at e'; exact h.kinj k k' (by omega) (by omega) e'
    cnew := fun k hk => ⟨keepZ _ _ (h.cnew k hk).1, (h.cnew k hk).2⟩
    cold := h.cold }
/-- A client's row to come has been stored. -/
theorem Cpy.com {w wr : World} {B' : Nat} {C : Cg} {n : Nat} {X : Sx} {m : Md} {vN' : Value} {rows : List Value} {Bc' bG' cap' : Nat} {x' : Array Value} {bk : Nat → Nat} {ck : Nat → Value} {j i l : Nat} (h : Cpy w wr B' C n X m vN' rows Bc' bG' cap' x' bk ck j i l) (hl : l < C.c) {v : Value} (hz : IsZ wr v (cmF X l)) (hv : ∀ g, v.ownBlock = some g → w.heap.size ≤ g) (hd : ∀ (a : Nat) u g, a < j → rows[a]? = some u → u.ownBlock = some g → v.ownBlock ≠ some g) :
    Cpy w (wr.setCell ⟨Bc', l * 3 + 2, none⟩ v) B' C n X m vN' rows Bc' bG' cap' x' bk (fun k => if k = l then v else ck k) j i (l + 1) := by
  have st : ∀ q, q ≠ Bc' → (wr.setCell ⟨Bc', l * 3 + 2, none⟩ v).heap[q]? = wr.heap[q]? := fun q hq => Below.heap_setCell _ _ _ _ hq
  have nec : ∀ (q : Nat) (c : Array Value) (t : TypeId) (f : Nat × Nat), wr.heap[q]? = some (.cells c t f) → t ≠ 72 → q ≠ Bc' := fun q c t f hq ht => ne_cells hq h.cl ht
  have nem : ∀ q, (∃ es c, wr.heap[q]? = some (.map es c)) → q ≠ Bc' := fun q hq e => ne_map h.cl hq e.symm
  have keepZ : ∀ (vv : Value) (xs : List Int), IsZ wr vv xs → IsZ (wr.setCell ⟨Bc', l * 3 + 2, none⟩ v) vv xs := fun vv xs hz => hz.kept fun q hq => by
    obtain ⟨c, hc⟩ := hz.cells hq
    exact st q (nec _ _ _ _ hc (by decide))
  have hp := heap_put (o := l * 3 + 2) h.cl v
  rw [Nat.mul_comm l 3, clC_come _ _ _ _ hl] at hp
  rw [Nat.mul_comm l 3] at *
  exact {
    bel := h.bel.setCell h.lt.2.1 _
    head := (st _ (nec _ _ _ _ h.head (by decide))).trans h.head
    cl := hp
    gv := h.gv.kept (st _ (nem _ h.gv.map))
    lt := h.lt
    nodes := own_kept h.nodes fun g hg => by
      obtain ⟨c, hc⟩ := own_cells h.nodes hg
      exact st g (nec _ _ _ _ hc (by decide))
    rnew := fun a K u ha hK hu => ⟨keepZ _ _ (h.rnew a K u ha hK hu).1, (h.rnew a K u ha hK hu).2⟩
    rold := h.rold
    rdis := h.rdis
    knew := fun k hk => ⟨(h.knew k hk).1.kept (st _ (nem _ (h.knew k hk).1.map)), (h.knew k hk).2⟩
    kold := h.kold
    kinj := h.kinj
    cnew := fun k hk => by
      show IsZ _ (if k = l then v else ck k) _ ∧ (∀ g, (if k = l then v else ck k).ownBlock = some g → _) ∧ ∀ (a : Nat) u g, _ → _ → _ → (if k = l then v else ck k).ownBlock ≠ some g
      by_cases e : k = l
      · subst e
        rw [if_pos rfl]
        exact ⟨keepZ _ _ hz, hv, hd⟩
      · rw [if_neg e]
        have := h.cnew k (by omega)
        exact ⟨keepZ _ _ this.1, this.2⟩
    cold := fun k hk => by show (if k = l then v else ck k) = _; rw [if_neg (by omega)]; exact h.cold k (by omega) }
end Go.Proofs.Ytcccmmhpingmnaa
