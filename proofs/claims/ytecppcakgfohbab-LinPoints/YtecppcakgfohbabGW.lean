/- Clones: of slices and of maps. -/
import Derived.Test.YtecppcakgfohbabGV
import Derived.Shelf.Lay
import Derived.Shelf.SlicesE.Clone
import Derived.Shelf.SlMaps.Clone
import Derived.Ground.SlgnProg
import Derived.Ground.SlmcProg
namespace Go.Proofs
open Go.Shelf
shelf_lay_g SlLaysE0.n41 Slgn 41 at Try 39 as Try.cloneR
shelf_lay_g SlLaysE0.n41 Slgn 41 at Try 40 as Try.cloneC
shelf_lay_g SlLaysE0.n41 Slgn 41 at Try 42 as Try.cloneI
shelf_lay_g SlLaysW.n5 Slmc 5 at Try 41 as Try.cloneG
shelf_lay_g SlLaysW.n5 Slmc 5 at Try 43 as Try.cloneH
end Go.Proofs
namespace Go.Proofs.Ytecppcakgfohbab
open Go.RowKit Go.Shelf
theorem infoR : (Try.prog.info? 25).map (fun i => (i.zero, i.size, i.bytes)) = some (some (.slice none 0 0), 1, 24) := by kernel_rfl
theorem infoC : (Try.prog.info? 83).map (fun i => (i.zero, i.size, i.bytes)) = some (some (.agg #[.map none, .int .u64 0, .slice none 0 0]), 3, 40) := by kernel_rfl

/-- A slice of ints cloned. -/
theorem clone_Z {w : World} {v : Value} {xs : List Int} (h : IsZ w v xs) (hl : xs.length ≤ 1000000) :
    Calls Try.prog 42 #[v] w fun r w' => ∃ v', r = .returned v' ∧ IsZ w' v' xs ∧ (∀ g, v'.ownBlock = some g → w.heap.size ≤ g) ∧ Below w.heap.size w w' := by
  rcases h with ⟨rfl, rfl⟩ | ⟨g, off, cap, cur, rfl, hh, h2, h3, h4, hc⟩
  · have c : Calls Try.prog 42 #[.slice none 0 0] w fun r w' => r = .returned (.slice none 0 0) ∧ w' = w := AnyE.slices_Clone_nil Try.cloneI 0 0 w
    refine c.mono ?_
    rintro r w' ⟨rfl, rfl⟩
    exact ⟨_, rfl, IsZ.nil _, fun g hg => (by cases hg), Below.refl _ _⟩
  · obtain ⟨i0, hi, hz0, hz1, hz2⟩ := info_parts Try.info3
    have hcell : ∀ j u, (ints xs)[j]? = some u → w.cell? ⟨g, off + j, none⟩ = some u := by
      intro j u hj
      have hjl : j < xs.length := by
        have := (List.getElem?_eq_some_iff.1 hj).1
        rwa [ints_len] at this
      rw [ints_get xs j hjl] at hj
      simp only [World.cell?, hh, hc j hjl]
      exact hj
    have c : Calls Try.prog 42 #[.slice (some ⟨g, off, none⟩) xs.length cap] w fun r w' => ∃ v', r = .returned v' ∧ w'.ownsRow w.heap.size 3 1 v' xs.length (ints xs) ∧ v' ≠ .slice none 0 0 ∧ Below w.heap.size w w' :=
      AnyE.slices_Clone Try.cloneI i0 (.int .i64 0) 1 8 hi hz0 hz1 hz2 rfl (by decide) Try.sizeOf3 g off xs.length cap (ints xs) w (by rw [ints_len]; omega) (by unfold maxLen; omega) (by omega) hcell (ints_one xs)
    refine c.mono ?_
    rintro r w' ⟨v', rfl, ho, _, hb⟩
    obtain ⟨q1, q2⟩ := IsZ.of_own ho rfl
    exact ⟨v', rfl, q1, q2, hb⟩
/-- The rows' slices cloned. -/
theorem clone_rows {w : World} {v : Value} {n : Nat} {rows : List Value} (h : w.ownsRow 0 25 1 v n rows) (hn : n ≤ 1000000) (h1 : ∀ u ∈ rows, u.oneCell' = true) :
    Calls Try.prog 39 #[v] w fun r w' => ∃ v', r = .returned v' ∧ w'.ownsRow w.heap.size 25 1 v' n rows ∧ Below w.heap.size w w' := by
  have hlen := h.1
  rcases h.2 with ⟨rfl, rfl⟩ | ⟨g, cap, cur, rfl, hb, hg, h2, h3, h4, h5⟩
  · have c : Calls Try.prog 39 #[.slice none 0 0] w fun r w' => r = .returned (.slice none 0 0) ∧ w' = w := AnyE.slices_Clone_nil Try.cloneR 0 0 w
    refine c.mono ?_
    rintro r w' ⟨rfl, rfl⟩
    obtain rfl : rows = [] := List.eq_nil_of_length_eq_zero (by simpa using hlen)
    exact ⟨_, rfl, World.ownsRow_nil _ _ _ _, Below.refl _ _⟩
  · obtain ⟨i0, hi, hz0, hz1, hz2⟩ := info_parts infoR
    have hcell : ∀ j u, rows[j]? = some u → w.cell? ⟨g, 0 + j, none⟩ = some u := by
      intro j u hj
      have := h.cells (g := g) rfl j u hj
      rw [Addr.add_lit] at this
      exact this
    have c : Calls Try.prog 39 #[.slice (some ⟨g, 0, none⟩) n cap] w fun r w' => ∃ v', r = .returned v' ∧ w'.ownsRow w.heap.size 25 1 v' n rows ∧ v' ≠ .slice none 0 0 ∧ Below w.heap.size w w' :=
      AnyE.slices_Clone Try.cloneR i0 (.slice none 0 0) 1 24 hi hz0 hz1 hz2 rfl (by decide) Try.sizeOf25 g 0 n cap rows w hlen (by unfold maxLen; omega) (by omega) hcell h1
    refine c.mono ?_
    rintro r w' ⟨v', rfl, ho, _, hb⟩
    exact ⟨v', rfl, ho, hb⟩
set_option maxRecDepth 100000 in
/-- The clients cloned. -/
theorem clone_clients {w : World} {b c cap : Nat} {x : Array Value} {bk : Nat → Nat} {ck : Nat → Value} {wk : Nat → Nat} (h : w.heap[b]? = some (.cells (clC x bk ck wk c) 83 (0, 0))) (hc0 : 0 < c) (hc8 : c ≤ 8) (h1 : ∀ k, k < c → (ck k).oneCell' = true) :
    Calls Try.prog 40 #[.slice (some ⟨b, 0, none⟩) c cap] w fun r w' => ∃ b' cap' x', r = .returned (.slice (some ⟨b', 0, none⟩) c cap') ∧ w'.heap[b']? = some (.cells (clC x' bk ck wk c) 83 (0, 0)) ∧ w.heap.size ≤ b' ∧ Below w.heap.size w w' := by
  obtain ⟨i0, hi, hz0, hz1, hz2⟩ := info_parts infoC
  have hat : ∀ q, q < 3 * c → (clC x bk ck wk c)[q]? = (clC #[] bk ck wk c)[q]? := fun q hq => by rw [clC_at, clC_at, if_pos hq, if_pos hq]
  have hsz : (clC #[] bk ck wk c).toList.length = 3 * c := by rw [Array.length_toList, clC_size]; simp
  have hcell : ∀ j u, (clC #[] bk ck wk c).toList[j]? = some u → w.cell? ⟨b, 0 + j, none⟩ = some u := by
    intro j u hj
    have hjl : j < 3 * c := by
      have := (List.getElem?_eq_some_iff.1 hj).1
      omega
    rw [Nat.zero_add]
    simp only [World.cell?, h]
    show (clC x bk ck wk c)[j]? = some u
    rw [hat j hjl, ← Array.getElem?_toList]
    exact hj
  have hone : ∀ u ∈ (clC #[] bk ck wk c).toList, u.oneCell' = true := by
    intro u hu
    obtain ⟨j, hj⟩ := List.getElem?_of_mem hu
    have hjl : j < 3 * c := by
      have := (List.getElem?_eq_some_iff.1 hj).1
      omega
    rw [Array.getElem?_toList, clC_at, if_pos hjl] at hj
    obtain rfl := Option.some.inj hj
    split
    · rfl
    · split
      · rfl
      · exact h1 _ (by omega)
  have cc : Calls Try.prog 40 #[.slice (some ⟨b, 0, none⟩) c cap] w fun r w' => ∃ v', r = .returned v' ∧ w'.ownsRow w.heap.size 83 3 v' c (clC #[] bk ck wk c).toList ∧ v' ≠ .slice none 0 0 ∧ Below w.heap.size w w' :=
    AnyE.slices_Clone Try.cloneC i0 (.agg #[.map none, .int .u64 0, .slice none 0 0]) 3 40 hi hz0 hz1 hz2 rfl (by decide) Try.sizeOf83 b 0 c cap (clC #[] bk ck wk c).toList w (by rw [hsz]; omega) (by unfold maxLen; omega) (by omega) hcell hone
  refine cc.mono ?_
  rintro r w' ⟨v', rfl, ho, hne, hb⟩
  rcases ho.2 with ⟨rfl, e⟩ | ⟨g, cap', cur, rfl, hbg, hg, h2, h3, h4, h5⟩
  · omega
  · refine ⟨g, cap', cur.extract (3 * c) cur.size, rfl, ?_, hbg, hb⟩
    rw [hg]
    congr 2
    apply Array.ext_getElem?
    intro q
    by_cases hq : q < 3 * c
    · have e := congrArg (fun l => l[q]?) h5
      simp only [List.getElem?_take, Array.getElem?_toList] at e
      rw [if_pos (by omega)] at e
      rw [e, clC_at, clC_at, if_pos hq, if_pos hq]
    · rw [clC_at, if_neg hq, Array.getElem?_extract]
      split
      · congr 1; omega
      · rw [Array.getElem?_eq_none (by omega)]
/-- The maps cloned. -/
theorem clone_held {w : World} {b n : Nat} {k : Int} {H : List Hl} (h : IsHd w b n k H) :
    Calls Try.prog 43 #[.map (some b)] w fun r w' => r = .returned (.map (some w.heap.size)) ∧ IsHd w' w.heap.size n k H ∧ ∃ o, w' = w.alloc o := by
  obtain ⟨D, ⟨es, cl, h1, h2⟩, h3⟩ := h
  have c : Calls Try.prog 43 #[.map (some b)] w fun r w' => r = .returned (.map (some w.heap.size)) ∧ w' = w.alloc (.map es cl) := AnyW.maps_Clone Try.cloneH b es cl w h1
  refine c.mono ?_
  rintro r w' ⟨rfl, rfl⟩
  exact ⟨rfl, ⟨D, ⟨es, cl, new_obj _ _, h2⟩, h3⟩, _, rfl⟩
theorem clone_given {w : World} {b n : Nat} {G : List Nat} (h : IsGv w b n G) :
    Calls Try.prog 41 #[.map (some b)] w fun r w' => r = .returned (.map (some w.heap.size)) ∧ IsGv w' w.heap.size n G ∧ ∃ o, w' = w.alloc o := by
  obtain ⟨D, ⟨es, cl, h1, h2⟩, h3⟩ := h
  have c : Calls Try.prog 41 #[.map (some b)] w fun r w' => r = .returned (.map (some w.heap.size)) ∧ w' = w.alloc (.map es cl) := AnyW.maps_Clone Try.cloneG b es cl w h1
  refine c.mono ?_
  rintro r w' ⟨rfl, rfl⟩
  exact ⟨rfl, ⟨D, ⟨es, cl, new_obj _ _, h2⟩, h3⟩, _, rfl⟩
end Go.Proofs.Ytecppcakgfohbab
/- Copy: the program's. -/
namespace Go.Proofs.Ytecppcakgfohbab
open Go.RowKit

/-- A copy under way: j rows, i maps and l rows to come are its own. -/
structure Cpy (w wr : World) (B' : Nat) (C : Cg) (n : Nat) (X : Sx) (m : Md) (vN' : Value) (rows : List Value) (Bc' bG' cap' : Nat) (x' : Array Value) (bk : Nat → Nat) (ck : Nat → Value) (j i l : Nat) : Prop where
  bel : Below w.heap.size w wr
  head : wr.heap[B']? = some (.cells #[.int .i64 C.s, .int .i64 C.a, .int .i64 (C.c : Nat), .int .i64 C.d, .int .i64 C.g, .int .i64 C.k, vN', .slice (some ⟨Bc', 0, none⟩) C.c cap', .map (some bG')] 80 (0, 0))
  cl : wr.heap[Bc']? = some (.cells (clC x' bk ck (fun k => wkF X k) C.c) 83 (0, 0))
  gv : IsGv wr bG' n X.G
  lt : w.heap.size ≤ B' ∧ w.heap.size ≤ Bc' ∧ w.heap.size ≤ bG'
  nodes : wr.ownsRow w.heap.size 25 1 vN' X.F.length rows
  rnew : ∀ (a : Nat) K u, a < j → X.F[a]? = some K → rows[a]? = some u → IsZ wr u K ∧ ∀ g, u.ownBlock = some g → w.heap.size ≤ g
  rold : ∀ a, j ≤ a → rows[a]? = m.rows[a]?
  rdis : ∀ (a b : Nat) u u' g, a < j → b < j → rows[a]? = some u → rows[b]? = some u' → u.ownBlock = some g → u'.ownBlock = some g → a = b
  knew : ∀ k : Nat, k < i → IsHd wr (bk k) n k X.H ∧ w.heap.size ≤ bk k ∧ bk k ≠ bG'
  kold : ∀ k, i ≤ k → bk k = m.bk k
  kinj : ∀ k k', k < i → k' < i → bk k = bk k' → k = k'
  cnew : ∀ k : Nat, k < l → IsZ wr (ck k) (cmF X k) ∧ (∀ g, (ck k).ownBlock = some g → w.heap.size ≤ g) ∧ ∀ (a : Nat) u g, a < j → rows[a]? = some u → u.ownBlock = some g → (ck k).ownBlock ≠ some g
  cold : ∀ k, l ≤ k → ck k = m.ck k
/-- A copy that is whole. -/
theorem Cpy.whole {w wr : World} {B' : Nat} {C : Cg} {n : Nat} {X : Sx} {m : Md} {vN' : Value} {rows : List Value} {Bc' bG' cap' : Nat} {x' : Array Value} {bk : Nat → Nat} {ck : Nat → Value} (h : Cpy w wr B' C n X m vN' rows Bc' bG' cap' x' bk ck X.F.length C.c C.c) (hn : X.W.length = C.c) : IsM wr B' (Lb w.heap.size wr) C n X := by
  have len : rows.length = X.F.length := by have := h.nodes.1; omega
  have rl : ∀ (a : Nat) u, rows[a]? = some u → a < X.F.length := fun a u e => by have := (List.getElem?_eq_some_iff.1 e).1; omega
  have rz : ∀ (a : Nat) u, rows[a]? = some u → ∃ K, X.F[a]? = some K ∧ IsZ wr u K ∧ ∀ g, u.ownBlock = some g → w.heap.size ≤ g := fun a u e => by
    have ha := rl a u e
    exact ⟨_, List.getElem?_eq_getElem ha, h.rnew a _ u ha (List.getElem?_eq_getElem ha) e⟩
  exact ⟨⟨vN', rows, Bc', bG', bk, ck, cap', x'⟩, {
    nc := hn
    head := h.head
    cl := h.cl
    nodes := ⟨h.nodes.1, by
      rcases h.nodes.2 with q | ⟨g, cap, cur, e, _, rest⟩
      · exact .inl q
      · exact .inr ⟨g, cap, cur, e, Nat.zero_le _, rest⟩⟩
    row := fun a K r hK hr => (h.rnew a K r (rl a r hr) hK hr).1
    dis := fun a b r r' g h1 h2 => h.rdis a b r r' g (rl a r h1) (rl b r' h2) h1 h2
    hs := fun k hk => (h.knew k hk).1
    gv := h.gv
    ms := fun k hk => (h.cnew k hk).1
    d0 := fun r hr g hg k hk => by
      obtain ⟨a, ha⟩ := List.getElem?_of_mem hr
      exact (h.cnew k hk).2.2 a r g (rl a r ha) ha hg
    mb := ⟨fun a b ha hb e => h.kinj a b ha hb e, fun k hk => (h.knew k hk).2.2⟩
    LB := ⟨⟨h.lt.1, lt_of_block h.head⟩, ⟨h.lt.2.1, lt_of_block h.cl⟩, fun k hk => ⟨(h.knew k hk).2.1, (h.knew k hk).1.lt⟩, ⟨h.lt.2.2, h.gv.lt⟩⟩
    LN := fun g hg => h.nodes.lt g hg
    LR := fun r hr g hg => by
      obtain ⟨a, ha⟩ := List.getElem?_of_mem hr
      obtain ⟨K, _, hz, hb⟩ := rz a r ha
      exact ⟨hb g hg, hz.lt hg⟩
    LM := fun k hk g hg => ⟨(h.cnew k hk).2.1 g hg, (h.cnew k hk).1.lt hg⟩ }⟩
theorem Cpy.below {w wr : World} {B' : Nat} {C : Cg} {n : Nat} {X : Sx} {m : Md} {vN' : Value} {rows : List Value} {Bc' bG' cap' : Nat} {x' : Array Value} {bk : Nat → Nat} {ck : Nat → Value} {j i l : Nat} (h : Cpy w wr B' C n X m vN' rows Bc' bG' cap' x' bk ck j i l) {wr2 : World} (b : Below wr.heap.size wr wr2) : Cpy w wr2 B' C n X m vN' rows Bc' bG' cap' x' bk ck j i l where
  bel := seq_below h.bel b
  head := (b.block _ (lt_of_block h.head)).trans h.head
  cl := (b.block _ (lt_of_block h.cl)).trans h.cl
  gv := h.gv.kept (b.block _ h.gv.lt)
  lt := h.lt
  nodes := own_kept h.nodes fun g hg => b.block g (h.nodes.lt g hg).2
  rnew := fun a K u ha hK hu => ⟨(h.rnew a K u ha hK hu).1.below b, (h.rnew a K u ha hK hu).2⟩
  rold := h.rold
  rdis := h.rdis
  knew := fun k hk => ⟨(h.knew k hk).1.kept (b.block _ (h.knew k hk).1.lt), (h.knew k hk).2⟩
  kold := h.kold
  kinj := h.kinj
  cnew := fun k hk => ⟨(h.cnew k hk).1.below b, (h.cnew k hk).2⟩
  cold := h.cold
/-- A row has been stored. -/
theorem Cpy.row {w wr : World} {B' : Nat} {C : Cg} {n : Nat} {X : Sx} {m : Md} {gN cp : Nat} {rows : List Value} {Bc' bG' cap' : Nat} {x' : Array Value} {bk : Nat → Nat} {ck : Nat → Value} {j : Nat} (h : Cpy w wr B' C n X m (.slice (some ⟨gN, 0, none⟩) X.F.length cp) rows Bc' bG' cap' x' bk ck j 0 0) (hj : j < X.F.length) {K : List Int} (hK : X.F[j]? = some K) {v : Value} (hz : IsZ wr v K) (hv : ∀ g, v.ownBlock = some g → w.heap.size ≤ g) (hf : ∀ (a : Nat) u g, a < j → rows[a]? = some u → u.ownBlock = some g → v.ownBlock ≠ some g) :
    Cpy w (wr.setCell ⟨gN, j, none⟩ v) B' C n X m (.slice (some ⟨gN, 0, none⟩) X.F.length cp) (rows.set j v) Bc' bG' cap' x' bk ck (j + 1) 0 0 := by
  have hlen : rows.length = X.F.length := by have := h.nodes.1; omega
  rcases h.nodes.2 with ⟨q, _⟩ | ⟨g, cap, cur, e, hb, hg, h2, h3, h4, h5⟩
  · cases q
  simp only [Value.slice.injEq, Option.some.injEq, Addr.mk.injEq] at e
  obtain ⟨⟨rfl, -, -⟩, -, rfl⟩ := e
  have st : ∀ q, q ≠ gN → (wr.setCell ⟨gN, j, none⟩ v).heap[q]? = wr.heap[q]? := fun q hq => Below.heap_setCell _ _ _ _ hq
  have nec : ∀ (q : Nat) (c : Array Value) (t : TypeId) (f : Nat × Nat), wr.heap[q]? = some (.cells c t f) → t ≠ 25 → q ≠ gN := fun q c t f hq ht => ne_cells hq hg ht
  have nem : ∀ q, (∃ es c, wr.heap[q]? = some (.map es c)) → q ≠ gN := fun q hq e => ne_map hg hq e.symm
  have hp := heap_put (o := j) hg v
  have keepZ : ∀ (vv : Value) (xs : List Int), IsZ wr vv xs → IsZ (wr.setCell ⟨gN, j, none⟩ v) vv xs := fun vv xs hz => hz.kept fun q hq => by
    obtain ⟨c, hc⟩ := hz.cells hq
    exact st q (nec _ _ _ _ hc (by decide))
  have get : ∀ (a : Nat) u, (rows.set j v)[a]? = some u → (a = j ∧ u = v) ∨ (a ≠ j ∧ rows[a]? = some u) := fun a u hu => by
    rw [List.getElem?_set] at hu
    by_cases ea : j = a
    · rw [if_pos ea, if_pos (by omega)] at hu
      exact .inl ⟨ea.symm, (Option.some.inj hu).symm⟩
    · rw [if_neg ea] at hu
      exact .inr ⟨Ne.symm ea, hu⟩
  exact {
    bel := h.bel.setCell hb v
    head := (st _ (nec _ _ _ _ h.head (by decide))).trans h.head
    cl := (st _ (nec _ _ _ _ h.cl (by decide))).trans h.cl
    gv := h.gv.kept (st _ (nem _ h.gv.map))
    lt := h.lt
    nodes := by
      refine ⟨by rw [List.length_set]; exact h.nodes.1, .inr ⟨gN, cp, _, rfl, hb, hp, h2, h3, by simpa using h4, ?_⟩⟩
      rw [Array.toList_setIfInBounds, List.take_set, h5]
    rnew := fun a K' u ha hK' hu => by
      rcases get a u hu with ⟨rfl, rfl⟩ | ⟨ne, hu'⟩
      · rw [hK] at hK'
        obtain rfl := Option.some.inj hK'
        exact ⟨keepZ _ _ hz, hv⟩
      · have := h.rnew a K' u (by omega) hK' hu'
        exact ⟨keepZ _ _ this.1, this.2⟩
    rold := fun a ha => by rw [List.getElem?_set, if_neg (by omega)]; exact h.rold a (by omega)
    rdis := fun a b u u' g ha hb h1 h2 h3 h4 => by
      rcases get a u h1 with ⟨rfl, rfl⟩ | ⟨na, h1'⟩
      · rcases get b u' h2 with ⟨e, rfl⟩ | ⟨nb, h2'⟩
        · exact e.symm
        · exact absurd h3 (hf b u' g (by omega) h2' h4)
      · rcases get b u' h2 with ⟨rfl, rfl⟩ | ⟨nb, h2'⟩
        · exact absurd h4 (hf a u g (by omega) h1' h3)
        · exact h.rdis a b u u' g (by omega) (by omega) h1' h2' h3 h4
    knew := fun k hk => absurd hk (by omega)
    kold := h.kold
    kinj := fun k k' hk => absurd hk (by omega)
    cnew := fun k hk => absurd hk (by omega)
    cold := h.cold }
theorem clC_map (x : Array Value) (bk : Nat → Nat) (ck : Nat → Value) (wk : Nat → Nat) {c k : Nat} (hk : k < c) (b : Nat) : (clC x bk ck wk c).setIfInBounds (k * 3) (.map (some b)) = clC x (fun i => if i = k then b else bk i) ck wk c := by
  apply Array.ext_getElem?
  intro q
  rw [Array.getElem?_setIfInBounds, clC_at, clC_at, clC_size]
  by_cases e : k * 3 = q
  · subst e
    rw [if_pos rfl, if_pos (by omega), if_pos (by omega), if_pos (by omega), if_pos (by omega)]
  · rw [if_neg e]
    by_cases hq : q < 3 * c
    · rw [if_pos hq, if_pos hq]
      by_cases h0 : q % 3 = 0
      · rw [if_pos h0, if_pos h0, if_neg (by omega)]
      · rw [if_neg h0, if_neg h0]
    · rw [if_neg hq, if_neg hq]
/-- A client's map has been stored. -/
theorem Cpy.map {w wr : World} {B' : Nat} {C : Cg} {n : Nat} {X : Sx} {m : Md} {vN' : Value} {rows : List Value} {Bc' bG' cap' : Nat} {x' : Array Value} {bk : Nat → Nat} {ck : Nat → Value} {j i l : Nat} (h : Cpy w wr B' C n X m vN' rows Bc' bG' cap' x' bk ck j i l) (hi : i < C.c) {b : Nat} (hb : IsHd wr b n i X.H) (hbs : w.heap.size ≤ b) (hf : ∀ k, k < i → bk k ≠ b) (hg : b ≠ bG') :
    Cpy w (wr.setCell ⟨Bc', i * 3, none⟩ (.map (some b))) B' C n X m vN' rows Bc' bG' cap' x' (fun k => if k = i then b else bk k) ck j (i + 1) l := by
  have st : ∀ q, q ≠ Bc' → (wr.setCell ⟨Bc', i * 3, none⟩ (.map (some b))).heap[q]? = wr.heap[q]? := fun q hq => Below.heap_setCell _ _ _ _ hq
  have nec : ∀ (q : Nat) (c : Array Value) (t : TypeId) (f : Nat × Nat), wr.heap[q]? = some (.cells c t f) → t ≠ 83 → q ≠ Bc' := fun q c t f hq ht => ne_cells hq h.cl ht
  have nem : ∀ q, (∃ es c, wr.heap[q]? = some (.map es c)) → q ≠ Bc' := fun q hq e => ne_map h.cl hq e.symm
  have keepZ : ∀ (vv : Value) (xs : List Int), IsZ wr vv xs → IsZ (wr.setCell ⟨Bc', i * 3, none⟩ (.map (some b))) vv xs := fun vv xs hz => hz.kept fun q hq => by
    obtain ⟨c, hc⟩ := hz.cells hq
    exact st q (nec _ _ _ _ hc (by decide))
  have hp := heap_put (o := i * 3) h.cl (.map (some b))
  rw [clC_map _ _ _ _ hi] at hp
  exact {
    bel := h.bel.setCell h.lt.2.1 _
    head := (st _ (nec _ _ _ _ h.head (by decide))).trans h.head
    cl := hp
    gv := h.gv.kept (st _ (nem _ h.gv.map))
    lt := h.lt
    nodes := own_kept h.nodes fun g hg => by
      obtain ⟨c, hc⟩ := own_cells h.nodes hg
      exact st g (nec _ _ _ _ hc (by decide))
    rnew := fun a K u ha hK hu => ⟨keepZ _ _ (h.rnew a K u ha hK hu).1, (h.rnew a K u ha hK hu).2⟩
    rold := h.rold
    rdis := h.rdis
    knew := fun k hk => by
      show IsHd _ (if k = i then b else bk k) n k X.H ∧ w.heap.size ≤ (if k = i then b else bk k) ∧ (if k = i then b else bk k) ≠ bG'
      by_cases e : k = i
      · subst e
        rw [if_pos rfl]
        exact ⟨hb.kept (st _ (nem _ hb.map)), hbs, hg⟩
      · rw [if_neg e]
        have := h.knew k (by omega)
        exact ⟨this.1.kept (st _ (nem _ this.1.map)), this.2⟩
    kold := fun k hk => by show (if k = i then b else bk k) = _; rw [if_neg (by omega)]; exact h.kold k (by omega)
    kinj := fun k k' hk hk' e => by
      have e' : (if k = i then b else bk k) = (if k' = i then b else bk k') := e
      by_cases e1 : k = i
      · by_cases e2 : k' = i
        · omega
        · rw [if_pos e1, if_neg e2] at e'; exact absurd e'.symm (hf k' (by omega))
      · by_cases e2 : k' = i
        · rw [if_neg e1, if_pos e2] at e'; exact absurd e' (hf k (by omega))
        · rw [if_neg e1, if_neg e2] at e'; exact h.kinj k k' (by omega) (by omega) e'
    cnew := fun k hk => ⟨keepZ _ _ (h.cnew k hk).1, (h.cnew k hk).2⟩
    cold := h.cold }
/-- A client's row to come has been stored. -/
theorem Cpy.com {w wr : World} {B' : Nat} {C : Cg} {n : Nat} {X : Sx} {m : Md} {vN' : Value} {rows : List Value} {Bc' bG' cap' : Nat} {x' : Array Value} {bk : Nat → Nat} {ck : Nat → Value} {j i l : Nat} (h : Cpy w wr B' C n X m vN' rows Bc' bG' cap' x' bk ck j i l) (hl : l < C.c) {v : Value} (hz : IsZ wr v (cmF X l)) (hv : ∀ g, v.ownBlock = some g → w.heap.size ≤ g) (hd : ∀ (a : Nat) u g, a < j → rows[a]? = some u → u.ownBlock = some g → v.ownBlock ≠ some g) :
    Cpy w (wr.setCell ⟨Bc', l * 3 + 2, none⟩ v) B' C n X m vN' rows Bc' bG' cap' x' bk (fun k => if k = l then v else ck k) j i (l + 1) := by
  have st : ∀ q, q ≠ Bc' → (wr.setCell ⟨Bc', l * 3 + 2, none⟩ v).heap[q]? = wr.heap[q]? := fun q hq => Below.heap_setCell _ _ _ _ hq
  have nec : ∀ (q : Nat) (c : Array Value) (t : TypeId) (f : Nat × Nat), wr.heap[q]? = some (.cells c t f) → t ≠ 83 → q ≠ Bc' := fun q c t f hq ht => ne_cells hq h.cl ht
  have nem : ∀ q, (∃ es c, wr.heap[q]? = some (.map es c)) → q ≠ Bc' := fun q hq e => ne_map h.cl hq e.symm
  have keepZ : ∀ (vv : Value) (xs : List Int), IsZ wr vv xs → IsZ (wr.setCell ⟨Bc', l * 3 + 2, none⟩ v) vv xs := fun vv xs hz => hz.kept fun q hq => by
    obtain ⟨c, hc⟩ := hz.cells hq
    exact st q (nec _ _ _ _ hc (by decide))
  have hp := heap_put (o := l * 3 + 2) h.cl v
  rw [Nat.mul_comm l 3, clC_come _ _ _ _ hl] at hp
  rw [Nat.mul_comm l 3] at *
  exact {
    bel := h.bel.setCell h.lt.2.1 _
    head := (st _ (nec _ _ _ _ h.head (by decide))).trans h.head
    cl := hp
    gv := h.gv.kept (st _ (nem _ h.gv.map))
    lt := h.lt
    nodes := own_kept h.nodes fun g hg => by
      obtain ⟨c, hc⟩ := own_cells h.nodes hg
      exact st g (nec _ _ _ _ hc (by decide))
    rnew := fun a K u ha hK hu => ⟨keepZ _ _ (h.rnew a K u ha hK hu).1, (h.rnew a K u ha hK hu).2⟩
    rold := h.rold
    rdis := h.rdis
    knew := fun k hk => ⟨(h.knew k hk).1.kept (st _ (nem _ (h.knew k hk).1.map)), (h.knew k hk).2⟩
    kold := h.kold
    kinj := h.kinj
    cnew := fun k hk => by
      show IsZ _ (if k = l then v else ck k) _ ∧ (∀ g, (if k = l then v else ck k).ownBlock = some g → _) ∧ ∀ (a : Nat) u g, _ → _ → _ → (if k = l then v else ck k).ownBlock ≠ some g
      by_cases e : k = l
      · subst e
        rw [if_pos rfl]
        exact ⟨keepZ _ _ hz, hv, hd⟩
      · rw [if_neg e]
        have := h.cnew k (by omega)
        exact ⟨keepZ _ _ this.1, this.2⟩
    cold := fun k hk => by show (if k = l then v else ck k) = _; rw [if_neg (by omega)]; exact h.cold k (by omega) }
end Go.Proofs.Ytecppcakgfohbab
/- Copy: the walk. -/
namespace Go.Proofs.Ytecppcakgfohbab
open Go.RowKit
set_option linter.unusedSimpArgs false
set_option linter.unusedVariables false

set_option maxRecDepth 100000 in
set_option maxHeartbeats 4000000 in
theorem copy_any {w : World} {B : Nat} {L : Nat → Prop} {C : Cg} {n : Nat} {X : Sx} {m : Md} (h : MdOk w B L C n X m) {N : Nat} (iv : X.Inv N) (hN : N < 1000000) (hc0 : 0 < C.c) (hc8 : C.c ≤ 8) :
    Calls Try.prog 26 #[.pointer (some ⟨B, 0, none⟩)] w fun r w' => ∃ B', r = .returned (.pointer (some ⟨B', 0, none⟩)) ∧ w.heap.size ≤ B' ∧ IsM w' B' (Lb w.heap.size w') C n X ∧ Below w.heap.size w w' := by
  obtain ⟨adN, cpN, hvN⟩ := h.vN
  have H8 := hid1 fun (wr : World) (b : Below w.heap.size w wr) => h.below b
  have hF : X.F.length ≤ 1000000 := Nat.le_trans iv.nF (by omega)
  have hrow1 : ∀ u ∈ m.rows, u.oneCell' = true := fun u hu => by
    obtain ⟨a, ha⟩ := List.getElem?_of_mem hu
    have hal : a < X.F.length := by have := (List.getElem?_eq_some_iff.1 ha).1; have := h.nodes.1; omega
    obtain ⟨ad, cap, rfl, _⟩ := (h.row a _ u (List.getElem?_eq_getElem hal) ha).form
    rfl
  have hck1 : ∀ k, k < C.c → (m.ck k).oneCell' = true := fun k hk => by
    obtain ⟨ad, cap, e, _⟩ := (h.ms k hk).form
    rw [e]
    rfl
  have lt0 : B < w.heap.size := lt_of_block h.head
  replace hvN := hid1 hvN
  replace hrow1 := hid1 hrow1
  replace hck1 := hid1 hck1
  replace hF := hid1 hF
  replace iv := hid1 iv
  clear h
  go_enter Try.func26, Try.ntmps26
  go_upto_region 3 with fail
  refine wp_region_held_drew (S := fun wr => Below w.heap.size w wr) (by kernel_rfl) (Below.refl _ w).drew (fun hS1 => ?_)
  refine wpAnyH_take (i := 0) (oi := { dst := some 10, op := Go.Op.move (Go.Operand.tmp 0), type := 60, pos := "model.go:90", after := #[], guard := none }) (v := .pointer (some ⟨B, 0, none⟩)) rfl (by kernel_rfl) (by kernel_rfl) (by kernel_rfl) (fun _ _ _ h => h) (Or.inl ⟨by rfl, fun w hSw => by (try dsimp only at hSw); go_simp⟩) hS1 ?_
  simp only [Act.put, List.setIfInBounds_toArray, List.set_cons_zero, List.set_cons_succ]
  refine wpAnyH_take (i := 1) (oi := { dst := some 11, op := Go.Op.nilCheck (Go.Operand.tmp 10), type := 0, pos := "model.go:90", after := #[{ on := 0, ground := Go.Ground.data }], guard := none }) (v := .pointer (some ⟨B, 0, none⟩)) rfl (by kernel_rfl) (by kernel_rfl) (by kernel_rfl) (fun _ _ _ h => h) (Or.inl ⟨by rfl, fun w hSw => by (try dsimp only at hSw); go_simp⟩) hS1 ?_
  simp only [Act.put, List.setIfInBounds_toArray, List.set_cons_zero, List.set_cons_succ]
  refine wpAnyH_take (i := 2) (oi := { dst := some 12, op := Go.Op.fieldAddr 80 (Go.Operand.tmp 11) 0, type := 0, pos := "model.go:90", after := #[{ on := 1, ground := Go.Ground.data }], guard := none }) (v := .pointer (some ⟨B, 0, none⟩)) rfl (by kernel_rfl) (by kernel_rfl) (by kernel_rfl) (fun _ _ _ h => h) (Or.inl ⟨by rfl, fun w hSw => by (try dsimp only at hSw); go_simp⟩) hS1 ?_
  simp only [Act.put, List.setIfInBounds_toArray, List.set_cons_zero, List.set_cons_succ]
  refine wpAnyH_take (i := 3) (oi := { dst := some 13, op := Go.Op.load 23 (Go.Operand.tmp 12), type := 23, pos := "model.go:90", after := #[{ on := 2, ground := Go.Ground.data }], guard := none }) (v := .agg #[.int .i64 C.s, .int .i64 C.a, .int .i64 (C.c : Nat), .int .i64 C.d, .int .i64 C.g, .int .i64 C.k]) rfl (by kernel_rfl) (by kernel_rfl) (by kernel_rfl) (fun _ _ _ h => h) (Or.inl ⟨by rfl, fun w hSw => by (try dsimp only at hSw); obtain ⟨x0, x1, x2, x3, x4, x5, x6, x7, x8⟩ := (H8.out w hSw).cells; go_simp⟩) hS1 ?_
  simp only [Act.put, List.setIfInBounds_toArray, List.set_cons_zero, List.set_cons_succ]
  refine wpAnyH_take (i := 4) (oi := { dst := some 14, op := Go.Op.move (Go.Operand.tmp 0), type := 60, pos := "model.go:90", after := #[], guard := none }) (v := .pointer (some ⟨B, 0, none⟩)) rfl (by kernel_rfl) (by kernel_rfl) (by kernel_rfl) (fun _ _ _ h => h) (Or.inl ⟨by rfl, fun w hSw => by (try dsimp only at hSw); go_simp⟩) hS1 ?_
  simp only [Act.put, List.setIfInBounds_toArray, List.set_cons_zero, List.set_cons_succ]
  refine wpAnyH_take (i := 5) (oi := { dst := some 15, op := Go.Op.nilCheck (Go.Operand.tmp 14), type := 0, pos := "model.go:90", after := #[{ on := 4, ground := Go.Ground.data }], guard := none }) (v := .pointer (some ⟨B, 0, none⟩)) rfl (by kernel_rfl) (by kernel_rfl) (by kernel_rfl) (fun _ _ _ h => h) (Or.inl ⟨by rfl, fun w hSw => by (try dsimp only at hSw); go_simp⟩) hS1 ?_
  simp only [Act.put, List.setIfInBounds_toArray, List.set_cons_zero, List.set_cons_succ]
  refine wpAnyH_take (i := 6) (oi := { dst := some 16, op := Go.Op.fieldAddr 80 (Go.Operand.tmp 15) 1, type := 0, pos := "model.go:90", after := #[{ on := 5, ground := Go.Ground.data }], guard := none }) (v := .pointer (some ⟨B, 6, none⟩)) rfl (by kernel_rfl) (by kernel_rfl) (by kernel_rfl) (fun _ _ _ h => h) (Or.inl ⟨by rfl, fun w hSw => by (try dsimp only at hSw); go_simp⟩) hS1 ?_
  simp only [Act.put, List.setIfInBounds_toArray, List.set_cons_zero, List.set_cons_succ]
  refine wpAnyH_take (i := 7) (oi := { dst := some 17, op := Go.Op.load 50 (Go.Operand.tmp 16), type := 50, pos := "model.go:90", after := #[{ on := 6, ground := Go.Ground.data }], guard := none }) (v := .slice adN X.F.length cpN) rfl (by kernel_rfl) (by kernel_rfl) (by kernel_rfl) (fun _ _ _ h => h) (Or.inl ⟨by rfl, fun w hSw => by (try dsimp only at hSw); obtain ⟨x0, x1, x2, x3, x4, x5, x6, x7, x8⟩ := (H8.out w hSw).cells; rw [hvN.out] at x6; go_simp⟩) hS1 ?_
  simp only [Act.put, List.setIfInBounds_toArray, List.set_cons_zero, List.set_cons_succ]
  refine wpAnyH_take (i := 9) (oi := { dst := some 19, op := Go.Op.move (Go.Operand.tmp 0), type := 60, pos := "model.go:90", after := #[], guard := none }) (v := .pointer (some ⟨B, 0, none⟩)) rfl (by kernel_rfl) (by kernel_rfl) (by kernel_rfl) (fun _ _ _ h => h) (Or.inl ⟨by rfl, fun w hSw => by (try dsimp only at hSw); go_simp⟩) hS1 ?_
  simp only [Act.put, List.setIfInBounds_toArray, List.set_cons_zero, List.set_cons_succ]
  refine wpAnyH_take (i := 10) (oi := { dst := some 20, op := Go.Op.nilCheck (Go.Operand.tmp 19), type := 0, pos := "model.go:90", after := #[{ on := 9, ground := Go.Ground.data }], guard := none }) (v := .pointer (some ⟨B, 0, none⟩)) rfl (by kernel_rfl) (by kernel_rfl) (by kernel_rfl) (fun _ _ _ h => h) (Or.inl ⟨by rfl, fun w hSw => by (try dsimp only at hSw); go_simp⟩) hS1 ?_
  simp only [Act.put, List.setIfInBounds_toArray, List.set_cons_zero, List.set_cons_succ]
  refine wpAnyH_take (i := 11) (oi := { dst := some 21, op := Go.Op.fieldAddr 80 (Go.Operand.tmp 20) 2, type := 0, pos := "model.go:90", after := #[{ on := 10, ground := Go.Ground.data }], guard := none }) (v := .pointer (some ⟨B, 7, none⟩)) rfl (by kernel_rfl) (by kernel_rfl) (by kernel_rfl) (fun _ _ _ h => h) (Or.inl ⟨by rfl, fun w hSw => by (try dsimp only at hSw); go_simp⟩) hS1 ?_
  simp only [Act.put, List.setIfInBounds_toArray, List.set_cons_zero, List.set_cons_succ]
  refine wpAnyH_take (i := 12) (oi := { dst := some 22, op := Go.Op.load 77 (Go.Operand.tmp 21), type := 77, pos := "model.go:90", after := #[{ on := 11, ground := Go.Ground.data }], guard := none }) (v := .slice (some ⟨m.Bc, 0, none⟩) C.c m.cpC) rfl (by kernel_rfl) (by kernel_rfl) (by kernel_rfl) (fun _ _ _ h => h) (Or.inl ⟨by rfl, fun w hSw => by (try dsimp only at hSw); obtain ⟨x0, x1, x2, x3, x4, x5, x6, x7, x8⟩ := (H8.out w hSw).cells; go_simp⟩) hS1 ?_
  simp only [Act.put, List.setIfInBounds_toArray, List.set_cons_zero, List.set_cons_succ]
  refine wpAnyH_take (i := 14) (oi := { dst := some 24, op := Go.Op.move (Go.Operand.tmp 0), type := 60, pos := "model.go:90", after := #[], guard := none }) (v := .pointer (some ⟨B, 0, none⟩)) rfl (by kernel_rfl) (by kernel_rfl) (by kernel_rfl) (fun _ _ _ h => h) (Or.inl ⟨by rfl, fun w hSw => by (try dsimp only at hSw); go_simp⟩) hS1 ?_
  simp only [Act.put, List.setIfInBounds_toArray, List.set_cons_zero, List.set_cons_succ]
  refine wpAnyH_take (i := 15) (oi := { dst := some 25, op := Go.Op.nilCheck (Go.Operand.tmp 24), type := 0, pos := "model.go:90", after := #[{ on := 14, ground := Go.Ground.data }], guard := none }) (v := .pointer (some ⟨B, 0, none⟩)) rfl (by kernel_rfl) (by kernel_rfl) (by kernel_rfl) (fun _ _ _ h => h) (Or.inl ⟨by rfl, fun w hSw => by (try dsimp only at hSw); go_simp⟩) hS1 ?_
  simp only [Act.put, List.setIfInBounds_toArray, List.set_cons_zero, List.set_cons_succ]
  refine wpAnyH_take (i := 16) (oi := { dst := some 26, op := Go.Op.fieldAddr 80 (Go.Operand.tmp 25) 3, type := 0, pos := "model.go:90", after := #[{ on := 15, ground := Go.Ground.data }], guard := none }) (v := .pointer (some ⟨B, 8, none⟩)) rfl (by kernel_rfl) (by kernel_rfl) (by kernel_rfl) (fun _ _ _ h => h) (Or.inl ⟨by rfl, fun w hSw => by (try dsimp only at hSw); go_simp⟩) hS1 ?_
  simp only [Act.put, List.setIfInBounds_toArray, List.set_cons_zero, List.set_cons_succ]
  refine wpAnyH_take (i := 17) (oi := { dst := some 27, op := Go.Op.load 78 (Go.Operand.tmp 26), type := 78, pos := "model.go:90", after := #[{ on := 16, ground := Go.Ground.data }], guard := none }) (v := .map (some m.bG)) rfl (by kernel_rfl) (by kernel_rfl) (by kernel_rfl) (fun _ _ _ h => h) (Or.inl ⟨by rfl, fun w hSw => by (try dsimp only at hSw); obtain ⟨x0, x1, x2, x3, x4, x5, x6, x7, x8⟩ := (H8.out w hSw).cells; go_simp⟩) hS1 ?_
  simp only [Act.put, List.setIfInBounds_toArray, List.set_cons_zero, List.set_cons_succ]
  refine wpAnyH_ready (rs := [8]) (by kernel_rfl) (by simp) (AllReadyH.cons (o := { dst := some 18, op := Go.Op.call { callee := Go.Callee.value (Go.Operand.func 39), args := #[Go.Operand.tmp 17], argTypes := #[50] }, type := 50, pos := "model.go:90", after := #[{ on := 7, ground := Go.Ground.data }], guard := none }) rfl (fun K hK => ?_) AllReadyH.nil)
  go_simp
  have m1 := H8.out _ hS1
  have o1 := m1.nodes
  rw [hvN.out] at o1
  go_at_call 39
  with_reducible refine (clone_rows o1 hF.out hrow1.out).mono ?_
  rintro r w1 ⟨v1, rfl, own1, b1⟩
  (try simp only [])
  replace b1 := hS1.trans (b1.mono hS1.size)
  replace own1 : w1.ownsRow w.heap.size 25 1 v1 X.F.length m.rows := own1
  refine hK.out _ _ b1 (fun hS1 => ?_)
  (try simp only [Act.put, List.setIfInBounds_toArray, List.set_cons_zero, List.set_cons_succ])
  clear hK K m1 o1
  obtain ⟨ad1, cp1, hv1⟩ := own_form own1
  subst hv1
  refine wpAnyH_ready (rs := [13]) (by kernel_rfl) (by simp) (AllReadyH.cons (o := { dst := some 23, op := Go.Op.call { callee := Go.Callee.value (Go.Operand.func 40), args := #[Go.Operand.tmp 22], argTypes := #[77] }, type := 77, pos := "model.go:90", after := #[{ on := 12, ground := Go.Ground.data }, { on := 8, ground := Go.Ground.chain }], guard := none }) rfl (fun K hK => ?_) AllReadyH.nil)
  go_simp
  go_at_call 40
  with_reducible refine (clone_clients (H8.out _ b1).cl hc0 hc8 hck1.out).mono ?_
  rintro r w2 ⟨Bc', cap', x', rfl, hcl2, hb2, b2⟩
  (try simp only [])
  have own2 := own_kept own1 fun g hg => b2.block g (own1.lt g hg).2
  have hbc2 := Nat.le_trans b1.size hb2
  replace b2 := seq_below b1 b2
  refine hK.out _ _ b2 (fun hS1 => ?_)
  (try simp only [Act.put, List.setIfInBounds_toArray, List.set_cons_zero, List.set_cons_succ])
  clear hK K b1 own1 hb2
  refine wpAnyH_ready (rs := [18]) (by kernel_rfl) (by simp) (AllReadyH.cons (o := { dst := some 28, op := Go.Op.call { callee := Go.Callee.value (Go.Operand.func 41), args := #[Go.Operand.tmp 27], argTypes := #[78] }, type := 78, pos := "model.go:90", after := #[{ on := 17, ground := Go.Ground.data }, { on := 13, ground := Go.Ground.chain }], guard := none }) rfl (fun K hK => ?_) AllReadyH.nil)
  go_simp
  go_at_call 41
  with_reducible refine (clone_given (H8.out _ b2).gv).mono ?_
  rintro r w3 ⟨rfl, hgv3, o3, rfl⟩
  (try simp only [])
  have b3 := alloc_below w2 o3
  have own3 := own_kept own2 fun g hg => b3.block g (own2.lt g hg).2
  have hcl3 := (b3.block _ (lt_of_block hcl2)).trans hcl2
  obtain ⟨bG', hbG⟩ : ∃ bG', w2.heap.size = bG' := ⟨_, rfl⟩
  have hbg3 : w.heap.size ≤ bG' := hbG ▸ b2.size
  rw [hbG] at hgv3
  replace b3 := seq_below b2 b3
  refine hK.out _ _ b3 (fun hS1 => ?_)
  (try simp only [Act.put, List.setIfInBounds_toArray, List.set_cons_zero, List.set_cons_succ])
  (try simp only [hbG])
  clear hK K b2 own2 hcl2 hbG
  generalize World.alloc _ _ = w3 at *
  refine wpAnyH_take (i := 19) (oi := { dst := some 29, op := Go.Op.build 80 #[(0, Go.Operand.tmp 13), (1, Go.Operand.tmp 18), (2, Go.Operand.tmp 23), (3, Go.Operand.tmp 28)], type := 80, pos := "model.go:90", after := #[{ on := 3, ground := Go.Ground.data }, { on := 8, ground := Go.Ground.data }, { on := 13, ground := Go.Ground.data }, { on := 18, ground := Go.Ground.data }], guard := none }) (v := .agg #[.int .i64 C.s, .int .i64 C.a, .int .i64 (C.c : Nat), .int .i64 C.d, .int .i64 C.g, .int .i64 C.k, .slice ad1 X.F.length cp1, .slice (some ⟨Bc', 0, none⟩) C.c cap', .map (some bG')]) rfl (by kernel_rfl) (by kernel_rfl) (by kernel_rfl) (fun _ _ _ h => h) (Or.inl ⟨by rfl, fun w hSw => by (try dsimp only at hSw); go_simp⟩) hS1 ?_
  simp only [Act.put, List.setIfInBounds_toArray, List.set_cons_zero, List.set_cons_succ]
  refine wpAnyH_ready (rs := [20]) (by kernel_rfl) (by simp) (AllReadyH.cons (o := { dst := some 30, op := Go.Op.box 80 (Go.Operand.tmp 29), type := 60, pos := "model.go:90", after := #[{ on := 19, ground := Go.Ground.data }], guard := none }) rfl (fun K hK => ?_) AllReadyH.nil)
  go_simp
  have b4 := alloc_below w3 (.cells #[.int .i64 C.s, .int .i64 C.a, .int .i64 (C.c : Nat), .int .i64 C.d, .int .i64 C.g, .int .i64 C.k, .slice ad1 X.F.length cp1, .slice (some ⟨Bc', 0, none⟩) C.c cap', .map (some bG')] 80)
  have hB4 := new_obj w3 (.cells #[.int .i64 C.s, .int .i64 C.a, .int .i64 (C.c : Nat), .int .i64 C.d, .int .i64 C.g, .int .i64 C.k, .slice ad1 X.F.length cp1, .slice (some ⟨Bc', 0, none⟩) C.c cap', .map (some bG')] 80)
  obtain ⟨B', hB'⟩ : ∃ B', w3.heap.size = B' := ⟨_, rfl⟩
  have hB4' : w.heap.size ≤ B' := hB' ▸ b3.size
  rw [hB'] at hB4
  have hcp : Cpy w (w3.alloc (.cells #[.int .i64 C.s, .int .i64 C.a, .int .i64 (C.c : Nat), .int .i64 C.d, .int .i64 C.g, .int .i64 C.k, .slice ad1 X.F.length cp1, .slice (some ⟨Bc', 0, none⟩) C.c cap', .map (some bG')] 80)) B' C n X m (.slice ad1 X.F.length cp1) m.rows Bc' bG' cap' x' m.bk m.ck 0 0 0 :=
    { bel := seq_below b3 b4
      head := hB4
      cl := (b4.block _ (lt_of_block hcl3)).trans hcl3
      gv := hgv3.kept (b4.block _ hgv3.lt)
      lt := ⟨hB4', hbc2, hbg3⟩
      nodes := own_kept own3 fun g hg => b4.block g (own3.lt g hg).2
      rnew := fun a K u ha => absurd ha (by omega)
      rold := fun a _ => rfl
      rdis := fun a b u u' g ha => absurd ha (by omega)
      knew := fun k hk => absurd hk (by omega)
      kold := fun k _ => rfl
      kinj := fun k k' hk => absurd hk (by omega)
      cnew := fun k hk => absurd hk (by omega)
      cold := fun k _ => rfl }
  refine hK.out _ _ hcp.bel (fun hS1 => ?_)
  (try simp only [Act.put, List.setIfInBounds_toArray, List.set_cons_zero, List.set_cons_succ])
  (try simp only [hB'])
  clear hK K b3 own3 hcl3 hB' hgv3 hB4 b4
  generalize World.alloc _ _ = w4 at *
  refine wpAnyH_take (i := 21) (oi := { dst := some 3, op := Go.Op.assign (Go.Operand.tmp 30), type := 60, pos := "model.go:90", after := #[{ on := 20, ground := Go.Ground.data }, { on := 18, ground := Go.Ground.chain }, { on := 0, ground := Go.Ground.phase }, { on := 1, ground := Go.Ground.phase }, { on := 2, ground := Go.Ground.phase }, { on := 3, ground := Go.Ground.phase }, { on := 4, ground := Go.Ground.phase }, { on := 5, ground := Go.Ground.phase }, { on := 6, ground := Go.Ground.phase }, { on := 7, ground := Go.Ground.phase }, { on := 8, ground := Go.Ground.phase }, { on := 9, ground := Go.Ground.phase }, { on := 10, ground := Go.Ground.phase }, { on := 11, ground := Go.Ground.phase }, { on := 12, ground := Go.Ground.phase }, { on := 13, ground := Go.Ground.phase }, { on := 14, ground := Go.Ground.phase }, { on := 15, ground := Go.Ground.phase }, { on := 16, ground := Go.Ground.phase }, { on := 17, ground := Go.Ground.phase }, { on := 18, ground := Go.Ground.phase }, { on := 19, ground := Go.Ground.phase }, { on := 20, ground := Go.Ground.phase }], guard := none }) (v := .pointer (some ⟨B', 0, none⟩)) rfl (by kernel_rfl) (by kernel_rfl) (by kernel_rfl) (fun _ _ _ h => h) (Or.inl ⟨by rfl, fun w hSw => by (try dsimp only at hSw); go_simp⟩) hS1 ?_
  simp only [Act.put, List.setIfInBounds_toArray, List.set_cons_zero, List.set_cons_succ]
  refine wpAnyH_done (by kernel_rfl) ?_ _
  clear hS1
  have t0 : w4.cell? ⟨B', 6, none⟩ = some (.slice ad1 X.F.length cp1) := by have h' := hcp.head; simp [World.cell?, h']
  go_upto_region 5 with fail
  clear t0
  replace hcp := hid1 hcp
  replace lt0 := hid1 lt0
  go_loopg [4, 5, 36] X.F.length (fun g1 _ _ vi wr => ∃ (j : Nat) (rows : List Value), vi = .int .i64 j ∧ j ≤ X.F.length ∧ X.F.length - j ≤ g1 ∧ Hid (Cpy w wr B' C n X m (.slice ad1 X.F.length cp1) rows Bc' bG' cap' x' m.bk m.ck j 0 0))
  case atStart => exact ⟨0, m.rows, rfl, Nat.zero_le _, by omega, hcp⟩
  case round =>
    clear hcp
    obtain ⟨j, rows, rfl, hj, hg1, I⟩ := hrel
    by_cases hl : j < X.F.length
    · have hlz : (j : Int) < (X.F.length : Int) := by omega
      have hlen : rows.length = X.F.length := by have := I.out.nodes.1; omega
      obtain ⟨Kr, hKr⟩ : ∃ K, X.F[j]? = some K := ⟨_, List.getElem?_eq_getElem hl⟩
      obtain ⟨u, hu⟩ : ∃ u, rows[j]? = some u := ⟨_, List.getElem?_eq_getElem (by omega)⟩
      have hum := hu
      rw [I.out.rold j (Nat.le_refl _)] at hum
      have hzu := (H8.out _ I.out.bel).row j Kr u hKr hum
      obtain ⟨au, cu, hau, -, -⟩ := hzu.form
      subst hau
      obtain ⟨gN, hgN⟩ : ∃ gN, ad1 = some ⟨gN, 0, none⟩ := by
        rcases I.out.nodes.2 with ⟨q, q0⟩ | ⟨g, cap, cur, e, _⟩
        · omega
        · simp only [Value.slice.injEq] at e; exact ⟨g, e.1⟩
      subst hgN
      have hKl : Kr.length ≤ 1000000 := Nat.le_trans (iv.out.row Kr (List.mem_of_getElem? hKr)) (by omega)
      have hc1 : ∀ wx, Cpy w wx B' C n X m (.slice (some ⟨gN, 0, none⟩) X.F.length cp1) rows Bc' bG' cap' x' m.bk m.ck j 0 0 → wx.cell? ⟨gN, j, none⟩ = some (.slice au Kr.length cu) ∧ wx.frozen? ⟨gN, j, none⟩ = false := fun wx I => by
        have q := I.nodes.cells (g := gN) rfl j _ hu
        rw [Addr.add_lit, Nat.zero_add] at q
        refine ⟨q, ?_⟩
        obtain ⟨c, hc⟩ := own_cells I.nodes (g := gN) rfl
        exact cells_free hc j
      have hc2 : ∀ wx rr jj, Cpy w wx B' C n X m (.slice (some ⟨gN, 0, none⟩) X.F.length cp1) rr Bc' bG' cap' x' m.bk m.ck jj 0 0 → wx.cell? ⟨B', 6, none⟩ = some (.slice (some ⟨gN, 0, none⟩) X.F.length cp1) := fun wx rr jj I => by
        have h' := I.head
        simp [World.cell?, h']
      have t1 := (hc1 _ I.out).1
      have t2 := hid1 (hc2 _ _ _ I.out)
      replace hc1 := hid1 hc1
      replace hc2 := hid1 hc2
      replace hKr := hid1 hKr
      replace hum := hid1 hum
      replace hu := hid1 hu
      replace hlen := hid1 hlen
      clear hzu
      go_upto_region 7 with fail
      clear t1
      refine wp_region_held_drew (S := fun wx => wx.cell? ⟨B', 6, none⟩ = some (.slice (some ⟨gN, 0, none⟩) X.F.length cp1)) (by kernel_rfl) t2.out (fun hS1 => ?_)
      refine wpAnyH_take (i := 0) (oi := { dst := some 41, op := Go.Op.move (Go.Operand.tmp 3), type := 60, pos := "model.go:92", after := #[], guard := none }) (v := .pointer (some ⟨B', 0, none⟩)) rfl (by kernel_rfl) (by kernel_rfl) (by kernel_rfl) (fun _ _ _ h => h) (Or.inl ⟨by rfl, fun w hSw => by (try dsimp only at hSw); go_simp⟩) hS1 ?_
      simp only [Act.put, List.setIfInBounds_toArray, List.set_cons_zero, List.set_cons_succ]
      refine wpAnyH_take (i := 1) (oi := { dst := some 42, op := Go.Op.nilCheck (Go.Operand.tmp 41), type := 0, pos := "model.go:92", after := #[{ on := 0, ground := Go.Ground.data }], guard := none }) (v := .pointer (some ⟨B', 0, none⟩)) rfl (by kernel_rfl) (by kernel_rfl) (by kernel_rfl) (fun _ _ _ h => h) (Or.inl ⟨by rfl, fun w hSw => by (try dsimp only at hSw); go_simp⟩) hS1 ?_
      simp only [Act.put, List.setIfInBounds_toArray, List.set_cons_zero, List.set_cons_succ]
      refine wpAnyH_take (i := 2) (oi := { dst := some 43, op := Go.Op.fieldAddr 80 (Go.Operand.tmp 42) 1, type := 0, pos := "model.go:92", after := #[{ on := 1, ground := Go.Ground.data }], guard := none }) (v := .pointer (some ⟨B', 6, none⟩)) rfl (by kernel_rfl) (by kernel_rfl) (by kernel_rfl) (fun _ _ _ h => h) (Or.inl ⟨by rfl, fun w hSw => by (try dsimp only at hSw); go_simp⟩) hS1 ?_
      simp only [Act.put, List.setIfInBounds_toArray, List.set_cons_zero, List.set_cons_succ]
      refine wpAnyH_take (i := 3) (oi := { dst := some 44, op := Go.Op.load 50 (Go.Operand.tmp 43), type := 50, pos := "model.go:92", after := #[{ on := 2, ground := Go.Ground.data }], guard := none }) (v := .slice (some ⟨gN, 0, none⟩) X.F.length cp1) rfl (by kernel_rfl) (by kernel_rfl) (by kernel_rfl) (fun _ _ _ h => h) (Or.inl ⟨by rfl, fun w hSw => by (try dsimp only at hSw); go_simp⟩) hS1 ?_
      simp only [Act.put, List.setIfInBounds_toArray, List.set_cons_zero, List.set_cons_succ]
      refine wpAnyH_take (i := 4) (oi := { dst := some 45, op := Go.Op.move (Go.Operand.tmp 4), type := 3, pos := "model.go:92", after := #[], guard := none }) (v := .int .i64 (j : Nat)) rfl (by kernel_rfl) (by kernel_rfl) (by kernel_rfl) (fun _ _ _ h => h) (Or.inl ⟨by rfl, fun w hSw => by (try dsimp only at hSw); go_simp⟩) hS1 ?_
      simp only [Act.put, List.setIfInBounds_toArray, List.set_cons_zero, List.set_cons_succ]
      refine wpAnyH_take (i := 5) (oi := { dst := some 46, op := Go.Op.move (Go.Operand.tmp 5), type := 25, pos := "model.go:92", after := #[], guard := none }) (v := .slice au Kr.length cu) rfl (by kernel_rfl) (by kernel_rfl) (by kernel_rfl) (fun _ _ _ h => h) (Or.inl ⟨by rfl, fun w hSw => by (try dsimp only at hSw); go_simp⟩) hS1 ?_
      simp only [Act.put, List.setIfInBounds_toArray, List.set_cons_zero, List.set_cons_succ]
      refine wpAnyH_ready (rs := [6]) (by kernel_rfl) (by simp) (AllReadyH.cons (o := { dst := some 47, op := Go.Op.call { callee := Go.Callee.value (Go.Operand.func 42), args := #[Go.Operand.tmp 46], argTypes := #[25] }, type := 25, pos := "model.go:92", after := #[{ on := 5, ground := Go.Ground.data }], guard := none }) rfl (fun K hK => ?_) AllReadyH.nil)
      go_simp
      have bd := (Below.refl wr.heap.size wr).drew
      have I1 := I.out.below bd
      have hz1 := (H8.out _ I1.bel).row j Kr _ hKr.out hum.out
      go_at_call 42
      with_reducible refine (clone_Z hz1 hKl).mono ?_
      rintro r w5 ⟨v, rfl, hzv, hvb, b5⟩
      obtain ⟨av, cv, hav, -, -⟩ := hzv.form
      subst hav
      (try simp only [])
      have I2 := I1.below b5
      replace hvb : ∀ g, (Value.slice av Kr.length cv).ownBlock = some g → wr.heap.size ≤ g := fun g hg => Nat.le_trans bd.size (hvb g hg)
      refine hK.out _ _ (hc2.out _ _ _ I2) (fun hS1 => ?_)
      (try simp only [Act.put, List.setIfInBounds_toArray, List.set_cons_zero, List.set_cons_succ])
      clear hK K hz1 bd b5
      refine wpAnyH_take (i := 7) (oi := { dst := some 48, op := Go.Op.indexAddr 50 (Go.Operand.tmp 44) (Go.Operand.tmp 45), type := 0, pos := "model.go:92", after := #[{ on := 3, ground := Go.Ground.data }, { on := 4, ground := Go.Ground.data }, { on := 0, ground := Go.Ground.phase }, { on := 1, ground := Go.Ground.phase }, { on := 2, ground := Go.Ground.phase }, { on := 3, ground := Go.Ground.phase }, { on := 4, ground := Go.Ground.phase }, { on := 5, ground := Go.Ground.phase }, { on := 6, ground := Go.Ground.phase }], guard := none }) (v := .pointer (some ⟨gN, j, none⟩)) rfl (by kernel_rfl) (by kernel_rfl) (by kernel_rfl) (fun _ _ _ h => h) (Or.inl ⟨by rfl, fun w hSw => by (try dsimp only at hSw); go_simp⟩) hS1 ?_
      simp only [Act.put, List.setIfInBounds_toArray, List.set_cons_zero, List.set_cons_succ]
      refine wpAnyH_ready (rs := [8]) (by kernel_rfl) (by simp) (AllReadyH.cons (o := { dst := none, op := Go.Op.store 25 (Go.Operand.tmp 48) (Go.Operand.tmp 47), type := 0, pos := "model.go:92", after := #[{ on := 7, ground := Go.Ground.data }, { on := 6, ground := Go.Ground.data }, { on := 6, ground := Go.Ground.chain }, { on := 0, ground := Go.Ground.phase }, { on := 1, ground := Go.Ground.phase }, { on := 2, ground := Go.Ground.phase }, { on := 3, ground := Go.Ground.phase }, { on := 4, ground := Go.Ground.phase }, { on := 5, ground := Go.Ground.phase }, { on := 6, ground := Go.Ground.phase }], guard := none }) rfl (fun K hK => ?_) AllReadyH.nil)
      obtain ⟨t1, t3⟩ := hc1.out _ I2
      go_simp
      have I3 := I2.row hl hKr.out hzv (fun g hg => Nat.le_trans I.out.bel.size (hvb g hg)) (fun a u g ha h1 h2 h3 => by
        have := (I.out.rnew a _ u ha (List.getElem?_eq_getElem (by omega)) h1).1.lt h2
        have := hvb g h3
        omega)
      refine hK.out _ _ (hc2.out _ _ _ I3) (fun hS1 => ?_)
      (try simp only [Act.put, List.setIfInBounds_toArray, List.set_cons_zero, List.set_cons_succ])
      clear hK K
      refine wpAnyH_done (by kernel_rfl) ?_ _
      clear hS1 t1 t3 I1 I2 hzv hvb
      replace I3 := hid1 I3
      go_wp2
      go_roundg (X.F.length - (j + 1))
      case measure => exact Nat.lt_of_lt_of_le (Nat.sub_succ_lt_self X.F.length j hl) hg1
      case rel => exact ⟨j + 1, _, congrArg (Value.int .i64) (by have := hF.out; rw [IntWalk.wrap64_in _ (by omega)]; omega), by omega, Nat.le_refl _, I3⟩
    · obtain rfl : j = X.F.length := by omega
      have hlz : ¬ ((X.F.length : Nat) : Int) < ((X.F.length : Nat) : Int) := by omega
      have t7 : wr.cell? ⟨B', 7, none⟩ = some (.slice (some ⟨Bc', 0, none⟩) C.c cap') := by have h' := I.out.head; simp [World.cell?, h']
      go_upto_region 10 with fail
      clear t7 hlz
      replace I := hid1 I.out
      go_loopg [6, 7, 55] C.c (fun g1 _ _ vi wr => ∃ (i : Nat) (bk : Nat → Nat) (ck : Nat → Value), vi = .int .i64 i ∧ i ≤ C.c ∧ C.c - i ≤ g1 ∧ Hid (Cpy w wr B' C n X m (.slice ad1 X.F.length cp1) rows Bc' bG' cap' x' bk ck X.F.length i i))
      case atStart => exact ⟨0, m.bk, m.ck, rfl, Nat.zero_le _, by omega, I⟩
      case round =>
        clear I
        obtain ⟨i, bk, ck, rfl, hi, hgi, I⟩ := hrel
        by_cases hli : i < C.c
        · have hliz : (i : Int) < (C.c : Int) := by omega
          have hzc := (H8.out _ I.out.bel).ms i hli
          obtain ⟨ac, cc, hac, -, -⟩ := hzc.form
          have hcl := I.out.cl
          have t0 : wr.cell? ⟨Bc', i * 3, none⟩ = some (.map (some (m.bk i))) := by
            simp only [World.cell?, hcl]
            show (clC _ _ _ _ _)[i * 3]? = _
            rw [clC_at, if_pos (by omega), if_pos (by omega), show i * 3 / 3 = i by omega, I.out.kold i (Nat.le_refl _)]
          have t1 : wr.cell? ⟨Bc', i * 3 + 1, none⟩ = some (.int .u64 (wkF X i : Nat)) := by
            simp only [World.cell?, hcl]
            show (clC _ _ _ _ _)[i * 3 + 1]? = _
            rw [clC_at, if_pos (by omega), if_neg (by omega), if_pos (by omega), show (i * 3 + 1) / 3 = i by omega]
          have t2 : wr.cell? ⟨Bc', i * 3 + 2, none⟩ = some (.slice ac (cmF X i).length cc) := by
            simp only [World.cell?, hcl]
            show (clC _ _ _ _ _)[i * 3 + 2]? = _
            rw [clC_at, if_pos (by omega), if_neg (by omega), if_neg (by omega), show (i * 3 + 2) / 3 = i by omega, I.out.cold i (Nat.le_refl _), hac]
          clear hcl hzc
          replace hac := hid1 hac
          have hq1 := new_obj wr (.cells #[.map none, .int .u64 0, .slice none 0 0] 83)
          have ba := alloc_below wr (.cells #[.map none, .int .u64 0, .slice none 0 0] 83)
          clear hq1 ba
          have hA := new_obj wr (.cells #[.map (some (m.bk i)), .int .u64 (wkF X i : Nat), .slice ac (cmF X i).length cc] 83)
          have IA := I.out.below (alloc_below wr (.cells #[.map (some (m.bk i)), .int .u64 (wkF X i : Nat), .slice ac (cmF X i).length cc] 83))
          have szA : (wr.alloc (.cells #[.map (some (m.bk i)), .int .u64 (wkF X i : Nat), .slice ac (cmF X i).length cc] 83)).heap.size = wr.heap.size + 1 := by simp
          go_upto_region 11 with fail
          go_wp2_with fail
          clear t0 t1 t2
          generalize World.alloc _ _ = wA at hA IA szA ⊢
          obtain ⟨bA, hbA⟩ : ∃ bA, wr.heap.size = bA := ⟨_, rfl⟩
          rw [hbA] at hA szA
          simp only [hbA]
          have hlow := hid1 fun k (hk : k < i) => hbA ▸ (I.out.knew k hk).1.lt
          have hgl := hid1 (hbA ▸ I.out.gv.lt)
          have hcB := hid1 (show Bc' < bA from hbA ▸ lt_of_block I.out.cl)
          have hwb := hid1 (show w.heap.size ≤ bA from hbA ▸ I.out.bel.size)
          have hcl := hid1 fun (a : Nat) u g (ha : a < X.F.length) (hu : rows[a]? = some u) (hg : u.ownBlock = some g) => show g < bA from hbA ▸ (I.out.rnew a _ u ha (List.getElem?_eq_getElem ha) hu).1.lt hg
          clear I hbA
          replace IA := hid1 IA
          have h7 := hid1 fun (wx : World) bk' ck' i' l' (J : Cpy w wx B' C n X m (.slice ad1 X.F.length cp1) rows Bc' bG' cap' x' bk' ck' X.F.length i' l') => show wx.cell? ⟨B', 7, none⟩ = some (.slice (some ⟨Bc', 0, none⟩) C.c cap') from by have h' := J.head; simp [World.cell?, h']
          have hcf := hid1 fun (wx : World) bk' ck' i' l' (J : Cpy w wx B' C n X m (.slice ad1 X.F.length cp1) rows Bc' bG' cap' x' bk' ck' X.F.length i' l') (q : Nat) (hq : q < 3 * C.c) => show (∃ u, wx.cell? ⟨Bc', q, none⟩ = some u) ∧ wx.frozen? ⟨Bc', q, none⟩ = false from ⟨by
            have h' := J.cl
            simp only [World.cell?, h']
            show ∃ u, (clC _ _ _ _ _)[q]? = some u
            rw [clC_at, if_pos hq]
            exact ⟨_, rfl⟩, cells_free J.cl q⟩
          have hAc := hid1 fun (wx : World) (hx : wx.heap[bA]? = some (.cells #[.map (some (m.bk i)), .int .u64 (wkF X i : Nat), .slice ac (cmF X i).length cc] 83 (0, 0))) => show wx.cell? ⟨bA, 0, none⟩ = some (.map (some (m.bk i))) ∧ wx.cell? ⟨bA, 2, none⟩ = some (.slice ac (cmF X i).length cc) from by constructor <;> simp [World.cell?, hx]
          replace hA := hid1 hA
          have bd := (Below.refl wA.heap.size wA).drew
          have I1 := IA.out.below bd
          have hA1 := (bd.block _ (lt_of_block hA.out)).trans hA.out
          refine wp_region_held_drew (S := fun wx => wx.cell? ⟨B', 7, none⟩ = some (.slice (some ⟨Bc', 0, none⟩) C.c cap') ∧ wx.cell? ⟨bA, 0, none⟩ = some (.map (some (m.bk i)))) (by kernel_rfl) ⟨h7.out _ _ _ _ _ I1, (hAc.out _ hA1).1⟩ (fun hS1 => ?_)
          refine wpAnyH_take (i := 0) (oi := { dst := some 60, op := Go.Op.move (Go.Operand.tmp 3), type := 60, pos := "model.go:95", after := #[], guard := none }) (v := .pointer (some ⟨B', 0, none⟩)) rfl (by kernel_rfl) (by kernel_rfl) (by kernel_rfl) (fun _ _ _ h => h) (Or.inl ⟨by rfl, fun w hSw => by (try dsimp only at hSw); go_simp⟩) hS1 ?_
          simp only [Act.put, List.setIfInBounds_toArray, List.set_cons_zero, List.set_cons_succ]
          refine wpAnyH_take (i := 1) (oi := { dst := some 61, op := Go.Op.nilCheck (Go.Operand.tmp 60), type := 0, pos := "model.go:95", after := #[{ on := 0, ground := Go.Ground.data }], guard := none }) (v := .pointer (some ⟨B', 0, none⟩)) rfl (by kernel_rfl) (by kernel_rfl) (by kernel_rfl) (fun _ _ _ h => h) (Or.inl ⟨by rfl, fun w hSw => by (try dsimp only at hSw); go_simp⟩) hS1 ?_
          simp only [Act.put, List.setIfInBounds_toArray, List.set_cons_zero, List.set_cons_succ]
          refine wpAnyH_take (i := 2) (oi := { dst := some 62, op := Go.Op.fieldAddr 80 (Go.Operand.tmp 61) 2, type := 0, pos := "model.go:95", after := #[{ on := 1, ground := Go.Ground.data }], guard := none }) (v := .pointer (some ⟨B', 7, none⟩)) rfl (by kernel_rfl) (by kernel_rfl) (by kernel_rfl) (fun _ _ _ h => h) (Or.inl ⟨by rfl, fun w hSw => by (try dsimp only at hSw); go_simp⟩) hS1 ?_
          simp only [Act.put, List.setIfInBounds_toArray, List.set_cons_zero, List.set_cons_succ]
          refine wpAnyH_take (i := 3) (oi := { dst := some 63, op := Go.Op.load 77 (Go.Operand.tmp 62), type := 77, pos := "model.go:95", after := #[{ on := 2, ground := Go.Ground.data }], guard := none }) (v := .slice (some ⟨Bc', 0, none⟩) C.c cap') rfl (by kernel_rfl) (by kernel_rfl) (by kernel_rfl) (fun _ _ _ h => h) (Or.inl ⟨by rfl, fun w hSw => by (try dsimp only at hSw); go_simp⟩) hS1 ?_
          simp only [Act.put, List.setIfInBounds_toArray, List.set_cons_zero, List.set_cons_succ]
          refine wpAnyH_take (i := 4) (oi := { dst := some 64, op := Go.Op.move (Go.Operand.tmp 6), type := 3, pos := "model.go:95", after := #[], guard := none }) (v := .int .i64 (i : Nat)) rfl (by kernel_rfl) (by kernel_rfl) (by kernel_rfl) (fun _ _ _ h => h) (Or.inl ⟨by rfl, fun w hSw => by (try dsimp only at hSw); go_simp⟩) hS1 ?_
          simp only [Act.put, List.setIfInBounds_toArray, List.set_cons_zero, List.set_cons_succ]
          refine wpAnyH_take (i := 5) (oi := { dst := some 65, op := Go.Op.fieldAddr 83 (Go.Operand.tmp 7) 0, type := 0, pos := "model.go:95", after := #[], guard := none }) (v := .pointer (some ⟨bA, 0, none⟩)) rfl (by kernel_rfl) (by kernel_rfl) (by kernel_rfl) (fun _ _ _ h => h) (Or.inl ⟨by rfl, fun w hSw => by (try dsimp only at hSw); go_simp⟩) hS1 ?_
          simp only [Act.put, List.setIfInBounds_toArray, List.set_cons_zero, List.set_cons_succ]
          refine wpAnyH_take (i := 6) (oi := { dst := some 66, op := Go.Op.load 81 (Go.Operand.tmp 65), type := 81, pos := "model.go:95", after := #[{ on := 5, ground := Go.Ground.data }], guard := none }) (v := .map (some (m.bk i))) rfl (by kernel_rfl) (by kernel_rfl) (by kernel_rfl) (fun _ _ _ h => h) (Or.inl ⟨by rfl, fun w hSw => by (try dsimp only at hSw); go_simp⟩) hS1 ?_
          simp only [Act.put, List.setIfInBounds_toArray, List.set_cons_zero, List.set_cons_succ]
          refine wpAnyH_ready (rs := [7]) (by kernel_rfl) (by simp) (AllReadyH.cons (o := { dst := some 67, op := Go.Op.call { callee := Go.Callee.value (Go.Operand.func 43), args := #[Go.Operand.tmp 66], argTypes := #[81] }, type := 81, pos := "model.go:95", after := #[{ on := 6, ground := Go.Ground.data }], guard := none }) rfl (fun K hK => ?_) AllReadyH.nil)
          go_simp
          have hh1 := (H8.out _ I1.bel).hs i hli
          go_at_call 43
          with_reducible refine (clone_held hh1).mono ?_
          rintro r w5 ⟨rfl, hh5, o5, rfl⟩
          (try simp only [])
          have I2 := I1.below (alloc_below _ o5)
          have hA2 := ((alloc_below _ o5).block _ (lt_of_block hA1)).trans hA1
          have szd := bd.size
          obtain ⟨bH, hbH⟩ : ∃ bH, wA.drew.heap.size = bH := ⟨_, rfl⟩
          rw [hbH] at hh5 szd
          refine hK.out _ _ ⟨h7.out _ _ _ _ _ I2, (hAc.out _ hA2).1⟩ (fun hS1 => ?_)
          (try simp only [Act.put, List.setIfInBounds_toArray, List.set_cons_zero, List.set_cons_succ])
          (try simp only [hbH])
          clear hK K hh1 I1 hA1 bd hbH
          generalize World.alloc _ _ = w5 at *
          refine wpAnyH_take (i := 8) (oi := { dst := some 68, op := Go.Op.indexAddr 77 (Go.Operand.tmp 63) (Go.Operand.tmp 64), type := 0, pos := "model.go:95", after := #[{ on := 3, ground := Go.Ground.data }, { on := 4, ground := Go.Ground.data }, { on := 0, ground := Go.Ground.phase }, { on := 1, ground := Go.Ground.phase }, { on := 2, ground := Go.Ground.phase }, { on := 3, ground := Go.Ground.phase }, { on := 4, ground := Go.Ground.phase }, { on := 5, ground := Go.Ground.phase }, { on := 6, ground := Go.Ground.phase }, { on := 7, ground := Go.Ground.phase }], guard := none }) (v := .pointer (some ⟨Bc', i * 3, none⟩)) rfl (by kernel_rfl) (by kernel_rfl) (by kernel_rfl) (fun _ _ _ h => h) (Or.inl ⟨by rfl, fun w hSw => by (try dsimp only at hSw); go_simp⟩) hS1 ?_
          simp only [Act.put, List.setIfInBounds_toArray, List.set_cons_zero, List.set_cons_succ]
          refine wpAnyH_take (i := 9) (oi := { dst := some 69, op := Go.Op.fieldAddr 83 (Go.Operand.tmp 68) 0, type := 0, pos := "model.go:95", after := #[{ on := 8, ground := Go.Ground.data }, { on := 0, ground := Go.Ground.phase }, { on := 1, ground := Go.Ground.phase }, { on := 2, ground := Go.Ground.phase }, { on := 3, ground := Go.Ground.phase }, { on := 4, ground := Go.Ground.phase }, { on := 5, ground := Go.Ground.phase }, { on := 6, ground := Go.Ground.phase }, { on := 7, ground := Go.Ground.phase }], guard := none }) (v := .pointer (some ⟨Bc', i * 3, none⟩)) rfl (by kernel_rfl) (by kernel_rfl) (by kernel_rfl) (fun _ _ _ h => h) (Or.inl ⟨by rfl, fun w hSw => by (try dsimp only at hSw); go_simp⟩) hS1 ?_
          simp only [Act.put, List.setIfInBounds_toArray, List.set_cons_zero, List.set_cons_succ]
          refine wpAnyH_ready (rs := [10]) (by kernel_rfl) (by simp) (AllReadyH.cons (o := { dst := none, op := Go.Op.store 81 (Go.Operand.tmp 69) (Go.Operand.tmp 67), type := 0, pos := "model.go:95", after := #[{ on := 9, ground := Go.Ground.data }, { on := 7, ground := Go.Ground.data }, { on := 7, ground := Go.Ground.chain }, { on := 0, ground := Go.Ground.phase }, { on := 1, ground := Go.Ground.phase }, { on := 2, ground := Go.Ground.phase }, { on := 3, ground := Go.Ground.phase }, { on := 4, ground := Go.Ground.phase }, { on := 5, ground := Go.Ground.phase }, { on := 6, ground := Go.Ground.phase }, { on := 7, ground := Go.Ground.phase }], guard := none }) rfl (fun K hK => ?_) AllReadyH.nil)
          obtain ⟨⟨uo, t1⟩, t3⟩ := hcf.out _ _ _ _ _ I2 (i * 3) (by omega)
          go_simp
          have I3 := I2.map hli hh5 (by have := hwb.out; omega) (fun k hk e => by have := hlow.out k hk; omega) (fun e => by have := hgl.out; omega)
          have hA3 := (Below.heap_setCell w5 ⟨Bc', i * 3, none⟩ (.map (some bH)) bA (fun e => by have := hcB.out; have e' : bA = Bc' := e; omega)).trans hA2
          refine hK.out _ _ ⟨h7.out _ _ _ _ _ I3, (hAc.out _ hA3).1⟩ (fun hS1 => ?_)
          (try simp only [Act.put, List.setIfInBounds_toArray, List.set_cons_zero, List.set_cons_succ])
          clear hK K
          refine wpAnyH_done (by kernel_rfl) ?_ _
          clear hS1 t1 t3 I2 hA2 hh5
          generalize World.setCell _ _ _ = w6 at *
          go_upto_region 13 with fail
          have hA4 := (Below.refl w6.heap.size w6).drew.block _ (lt_of_block hA3) |>.trans hA3
          have I4 := I3.below (Below.refl w6.heap.size w6).drew
          clear I3 hA3
          refine wp_region_held_drew (S := fun wx => wx.cell? ⟨B', 7, none⟩ = some (.slice (some ⟨Bc', 0, none⟩) C.c cap') ∧ wx.cell? ⟨bA, 2, none⟩ = some (.slice ac (cmF X i).length cc)) (by kernel_rfl) ⟨h7.out _ _ _ _ _ I4, (hAc.out _ hA4).2⟩ (fun hS1 => ?_)
          refine wpAnyH_take (i := 0) (oi := { dst := some 70, op := Go.Op.move (Go.Operand.tmp 3), type := 60, pos := "model.go:96", after := #[], guard := none }) (v := .pointer (some ⟨B', 0, none⟩)) rfl (by kernel_rfl) (by kernel_rfl) (by kernel_rfl) (fun _ _ _ h => h) (Or.inl ⟨by rfl, fun w hSw => by (try dsimp only at hSw); go_simp⟩) hS1 ?_
          simp only [Act.put, List.setIfInBounds_toArray, List.set_cons_zero, List.set_cons_succ]
          refine wpAnyH_take (i := 1) (oi := { dst := some 71, op := Go.Op.nilCheck (Go.Operand.tmp 70), type := 0, pos := "model.go:96", after := #[{ on := 0, ground := Go.Ground.data }], guard := none }) (v := .pointer (some ⟨B', 0, none⟩)) rfl (by kernel_rfl) (by kernel_rfl) (by kernel_rfl) (fun _ _ _ h => h) (Or.inl ⟨by rfl, fun w hSw => by (try dsimp only at hSw); go_simp⟩) hS1 ?_
          simp only [Act.put, List.setIfInBounds_toArray, List.set_cons_zero, List.set_cons_succ]
          refine wpAnyH_take (i := 2) (oi := { dst := some 72, op := Go.Op.fieldAddr 80 (Go.Operand.tmp 71) 2, type := 0, pos := "model.go:96", after := #[{ on := 1, ground := Go.Ground.data }], guard := none }) (v := .pointer (some ⟨B', 7, none⟩)) rfl (by kernel_rfl) (by kernel_rfl) (by kernel_rfl) (fun _ _ _ h => h) (Or.inl ⟨by rfl, fun w hSw => by (try dsimp only at hSw); go_simp⟩) hS1 ?_
          simp only [Act.put, List.setIfInBounds_toArray, List.set_cons_zero, List.set_cons_succ]
          refine wpAnyH_take (i := 3) (oi := { dst := some 73, op := Go.Op.load 77 (Go.Operand.tmp 72), type := 77, pos := "model.go:96", after := #[{ on := 2, ground := Go.Ground.data }], guard := none }) (v := .slice (some ⟨Bc', 0, none⟩) C.c cap') rfl (by kernel_rfl) (by kernel_rfl) (by kernel_rfl) (fun _ _ _ h => h) (Or.inl ⟨by rfl, fun w hSw => by (try dsimp only at hSw); go_simp⟩) hS1 ?_
          simp only [Act.put, List.setIfInBounds_toArray, List.set_cons_zero, List.set_cons_succ]
          refine wpAnyH_take (i := 4) (oi := { dst := some 74, op := Go.Op.move (Go.Operand.tmp 6), type := 3, pos := "model.go:96", after := #[], guard := none }) (v := .int .i64 (i : Nat)) rfl (by kernel_rfl) (by kernel_rfl) (by kernel_rfl) (fun _ _ _ h => h) (Or.inl ⟨by rfl, fun w hSw => by (try dsimp only at hSw); go_simp⟩) hS1 ?_
          simp only [Act.put, List.setIfInBounds_toArray, List.set_cons_zero, List.set_cons_succ]
          refine wpAnyH_take (i := 5) (oi := { dst := some 75, op := Go.Op.fieldAddr 83 (Go.Operand.tmp 7) 2, type := 0, pos := "model.go:96", after := #[], guard := none }) (v := .pointer (some ⟨bA, 2, none⟩)) rfl (by kernel_rfl) (by kernel_rfl) (by kernel_rfl) (fun _ _ _ h => h) (Or.inl ⟨by rfl, fun w hSw => by (try dsimp only at hSw); go_simp⟩) hS1 ?_
          simp only [Act.put, List.setIfInBounds_toArray, List.set_cons_zero, List.set_cons_succ]
          refine wpAnyH_take (i := 6) (oi := { dst := some 76, op := Go.Op.load 25 (Go.Operand.tmp 75), type := 25, pos := "model.go:96", after := #[{ on := 5, ground := Go.Ground.data }], guard := none }) (v := .slice ac (cmF X i).length cc) rfl (by kernel_rfl) (by kernel_rfl) (by kernel_rfl) (fun _ _ _ h => h) (Or.inl ⟨by rfl, fun w hSw => by (try dsimp only at hSw); go_simp⟩) hS1 ?_
          simp only [Act.put, List.setIfInBounds_toArray, List.set_cons_zero, List.set_cons_succ]
          refine wpAnyH_ready (rs := [7]) (by kernel_rfl) (by simp) (AllReadyH.cons (o := { dst := some 77, op := Go.Op.call { callee := Go.Callee.value (Go.Operand.func 42), args := #[Go.Operand.tmp 76], argTypes := #[25] }, type := 25, pos := "model.go:96", after := #[{ on := 6, ground := Go.Ground.data }], guard := none }) rfl (fun K hK => ?_) AllReadyH.nil)
          go_simp
          have hz5 := (H8.out _ I4.bel).ms i hli
          rw [hac.out] at hz5
          have hcl5 : (cmF X i).length ≤ 1000000 := Nat.le_trans (iv.out.com _ (mem_cm iv.out (by rw [(H8.out _ I4.bel).nc]; exact hli))) (by omega)
          go_at_call 42
          with_reducible refine (clone_Z hz5 hcl5).mono ?_
          rintro r w7 ⟨v, rfl, hzv, hvb, b7⟩
          obtain ⟨av, cv, hav, -, -⟩ := hzv.form
          subst hav
          (try simp only [])
          have I5 := I4.below b7
          have hA5 := (b7.block _ (lt_of_block hA4)).trans hA4
          have hvl : ∀ g, (Value.slice av (cmF X i).length cv).ownBlock = some g → bA < g := fun g hg => Nat.lt_of_lt_of_le (lt_of_block hA4) (hvb g hg)
          refine hK.out _ _ ⟨h7.out _ _ _ _ _ I5, (hAc.out _ hA5).2⟩ (fun hS1 => ?_)
          (try simp only [Act.put, List.setIfInBounds_toArray, List.set_cons_zero, List.set_cons_succ])
          clear hK K hz5 hcl5 I4 hA4 hvb b7
          refine wpAnyH_take (i := 8) (oi := { dst := some 78, op := Go.Op.indexAddr 77 (Go.Operand.tmp 73) (Go.Operand.tmp 74), type := 0, pos := "model.go:96", after := #[{ on := 3, ground := Go.Ground.data }, { on := 4, ground := Go.Ground.data }, { on := 0, ground := Go.Ground.phase }, { on := 1, ground := Go.Ground.phase }, { on := 2, ground := Go.Ground.phase }, { on := 3, ground := Go.Ground.phase }, { on := 4, ground := Go.Ground.phase }, { on := 5, ground := Go.Ground.phase }, { on := 6, ground := Go.Ground.phase }, { on := 7, ground := Go.Ground.phase }], guard := none }) (v := .pointer (some ⟨Bc', i * 3, none⟩)) rfl (by kernel_rfl) (by kernel_rfl) (by kernel_rfl) (fun _ _ _ h => h) (Or.inl ⟨by rfl, fun w hSw => by (try dsimp only at hSw); go_simp⟩) hS1 ?_
          simp only [Act.put, List.setIfInBounds_toArray, List.set_cons_zero, List.set_cons_succ]
          refine wpAnyH_take (i := 9) (oi := { dst := some 79, op := Go.Op.fieldAddr 83 (Go.Operand.tmp 78) 2, type := 0, pos := "model.go:96", after := #[{ on := 8, ground := Go.Ground.data }, { on := 0, ground := Go.Ground.phase }, { on := 1, ground := Go.Ground.phase }, { on := 2, ground := Go.Ground.phase }, { on := 3, ground := Go.Ground.phase }, { on := 4, ground := Go.Ground.phase }, { on := 5, ground := Go.Ground.phase }, { on := 6, ground := Go.Ground.phase }, { on := 7, ground := Go.Ground.phase }], guard := none }) (v := .pointer (some ⟨Bc', i * 3 + 2, none⟩)) rfl (by kernel_rfl) (by kernel_rfl) (by kernel_rfl) (fun _ _ _ h => h) (Or.inl ⟨by rfl, fun w hSw => by (try dsimp only at hSw); go_simp⟩) hS1 ?_
          simp only [Act.put, List.setIfInBounds_toArray, List.set_cons_zero, List.set_cons_succ]
          refine wpAnyH_ready (rs := [10]) (by kernel_rfl) (by simp) (AllReadyH.cons (o := { dst := none, op := Go.Op.store 25 (Go.Operand.tmp 79) (Go.Operand.tmp 77), type := 0, pos := "model.go:96", after := #[{ on := 9, ground := Go.Ground.data }, { on := 7, ground := Go.Ground.data }, { on := 7, ground := Go.Ground.chain }, { on := 0, ground := Go.Ground.phase }, { on := 1, ground := Go.Ground.phase }, { on := 2, ground := Go.Ground.phase }, { on := 3, ground := Go.Ground.phase }, { on := 4, ground := Go.Ground.phase }, { on := 5, ground := Go.Ground.phase }, { on := 6, ground := Go.Ground.phase }, { on := 7, ground := Go.Ground.phase }], guard := none }) rfl (fun K hK => ?_) AllReadyH.nil)
          obtain ⟨⟨uo, t1⟩, t3⟩ := hcf.out _ _ _ _ _ I5 (i * 3 + 2) (by omega)
          go_simp
          have I6 := I5.com hli hzv (fun g hg => by have := hwb.out; have := hvl g hg; omega) (fun a u g ha hu hg e => by have := hcl.out a u g ha hu hg; have := hvl g e; omega)
          have hA6 := (Below.heap_setCell w7 ⟨Bc', i * 3 + 2, none⟩ (.slice av (cmF X i).length cv) bA (fun e => by have := hcB.out; have e' : bA = Bc' := e; omega)).trans hA5
          refine hK.out _ _ ⟨h7.out _ _ _ _ _ I6, (hAc.out _ hA6).2⟩ (fun hS1 => ?_)
          (try simp only [Act.put, List.setIfInBounds_toArray, List.set_cons_zero, List.set_cons_succ])
          clear hK K
          refine wpAnyH_done (by kernel_rfl) ?_ _
          clear hS1 t1 t3 I5 hA5 hA6 hzv hvl
          replace I6 := hid1 I6
          go_wp2
          go_roundg (C.c - (i + 1))
          case measure => omega
          case rel => exact ⟨i + 1, _, _, congrArg (Value.int .i64) (by omega), by omega, Nat.le_refl _, I6⟩
        · obtain rfl : i = C.c := by omega
          have hliz : ¬ ((C.c : Nat) : Int) < ((C.c : Nat) : Int) := by omega
          go_wp2
          go_ret
          exact ⟨B', rfl, hB4', I.out.whole (H8.out _ (Below.refl _ _)).nc, I.out.bel⟩
end Go.Proofs.Ytecppcakgfohbab
