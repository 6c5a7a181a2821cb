/- Slices of ints in blocks of the call's own, at whatever offset; append onto one. -/
import Derived.Test.YtjbjijkkmlehgaaDoorPA
import Derived.ArgAppend
import Derived.Maps.AppendAt
import Derived.Laws.AppendOwnNone
import Derived.Test.YtjbjijkkmlehgaaDoorPB
namespace Go.Proofs.YtjbjijkkmlehgaaDoor
open Go.RowKit

def ints (xs : List Nat) : List Value := xs.map fun (x : Nat) => Value.int .i64 (x : Nat)
theorem ints_len (xs : List Nat) : (ints xs).length = xs.length := by simp [ints]
theorem ints_get (xs : List Nat) (i : Nat) (h : i < xs.length) : (ints xs)[i]? = some (.int .i64 (xs.getD i 0 : Nat)) := by simp [ints, h]
theorem ints_one (xs : List Nat) : ∀ u ∈ ints xs, u.oneCell' = true := by
  intro u hu
  obtain ⟨x, _, rfl⟩ := List.mem_map.1 hu
  rfl

/-- A slice of these ints, its block the call's own. -/
def IsI (w : World) (v : Value) (xs : List Nat) : Prop :=
  (v = .slice none 0 0 ∧ xs = []) ∨
  ∃ g off cap cur, v = .slice (some ⟨g, off, none⟩) xs.length cap ∧ w.heap[g]? = some (.cells cur 3 (0, 0)) ∧ xs.length ≤ cap ∧ cap ≤ maxLen ∧ off + cap ≤ cur.size ∧ ∀ i, i < xs.length → cur[off + i]? = some (.int .i64 (xs.getD i 0 : Nat))

theorem IsI.nil (w : World) : IsI w (.slice none 0 0) [] := .inl ⟨rfl, rfl⟩
theorem IsI.lt {w : World} {v : Value} {xs : List Nat} (h : IsI w v xs) {g : Nat} (hg : v.ownBlock = some g) : g < w.heap.size := by
  rcases h with ⟨rfl, _⟩ | ⟨g', off, cap, cur, rfl, hh, _⟩
  · cases hg
  · obtain rfl : g' = g := by simpa [Value.ownBlock] using hg
    exact lt_of_block hh
theorem IsI.kept {w w' : World} {v : Value} {xs : List Nat} (h : IsI w v xs) (hb : ∀ g, v.ownBlock = some g → w'.heap[g]? = w.heap[g]?) : IsI w' v xs := by
  rcases h with h | ⟨g, off, cap, cur, rfl, hh, rest⟩
  · exact .inl h
  · exact .inr ⟨g, off, cap, cur, rfl, (hb g rfl).trans hh, rest⟩
theorem IsI.below {w w' : World} {v : Value} {xs : List Nat} (h : IsI w v xs) (b : Below w.heap.size w w') : IsI w' v xs := h.kept fun g hg => b.block g (h.lt hg)
theorem IsI.chg {L : List Nat} {w w' : World} {v : Value} {xs : List Nat} (h : IsI w v xs) (b : Chg L w w') (hn : ∀ g, v.ownBlock = some g → g ∉ L) : IsI w' v xs := h.kept fun g hg => b.block g (h.lt hg) (hn g hg)

/-- The slice's form, for a walk. -/
theorem IsI.form {w : World} {v : Value} {xs : List Nat} (h : IsI w v xs) : ∃ ad cap, v = .slice ad xs.length cap ∧ xs.length ≤ cap ∧ (xs ≠ [] → ∃ g off, ad = some ⟨g, off, none⟩) := by
  rcases h with ⟨rfl, rfl⟩ | ⟨g, off, cap, cur, rfl, _, hc, _⟩
  · exact ⟨none, 0, rfl, Nat.le_refl _, fun h => absurd rfl h⟩
  · exact ⟨_, _, rfl, hc, fun _ => ⟨g, off, rfl⟩⟩
theorem IsI.cell {w : World} {g off n cap : Nat} {xs : List Nat} (h : IsI w (.slice (some ⟨g, off, none⟩) n cap) xs) (i : Nat) (hi : i < xs.length) : w.cell? ⟨g, off + i, none⟩ = some (.int .i64 (xs.getD i 0 : Nat)) := by
  rcases h with ⟨h0, _⟩ | ⟨g', off', cap', cur, h1, hh, _, _, _, hc⟩
  · cases h0
  · simp only [Value.slice.injEq, Option.some.injEq, Addr.mk.injEq] at h1
    obtain ⟨⟨rfl, rfl, -⟩, -, -⟩ := h1
    simp only [World.cell?, hh]
    exact hc i hi
theorem IsI.len {w : World} {ad : Option Addr} {n cap : Nat} {xs : List Nat} (h : IsI w (.slice ad n cap) xs) : n = xs.length ∧ n ≤ cap ∧ cap ≤ maxLen := by
  rcases h with ⟨h0, rfl⟩ | ⟨g', off', cap', cur, h1, hh, h2, h3, _⟩
  · simp only [Value.slice.injEq] at h0; obtain ⟨_, rfl, rfl⟩ := h0; exact ⟨rfl, Nat.le_refl _, Nat.zero_le _⟩
  · simp only [Value.slice.injEq] at h1; obtain ⟨_, rfl, rfl⟩ := h1; exact ⟨rfl, h2, h3⟩

theorem IsI.tail {w : World} {g off n cap : Nat} {x : Nat} {xs : List Nat} (h : IsI w (.slice (some ⟨g, off, none⟩) n cap) (x :: xs)) : IsI w (.slice (some ⟨g, off + 1, none⟩) xs.length (cap - 1)) xs := by
  rcases h with ⟨h0, _⟩ | ⟨g', off', cap', cur, h1, hh, h2, h3, h4, hc⟩
  · cases h0
  · simp only [Value.slice.injEq, Option.some.injEq, Addr.mk.injEq] at h1
    obtain ⟨⟨rfl, rfl, -⟩, rfl, rfl⟩ := h1
    simp only [List.length_cons] at h2 hc
    refine .inr ⟨g, off + 1, cap - 1, cur, rfl, hh, by omega, by omega, by omega, fun i hi => ?_⟩
    have := hc (i + 1) (by omega)
    rw [show off + 1 + i = off + (i + 1) by omega, this]
    simp

/-- All but the first element; the address stays where there is no room left. -/
theorem IsI.tails {w : World} {g off n cap : Nat} {x : Nat} {xs : List Nat} (h : IsI w (.slice (some ⟨g, off, none⟩) n cap) (x :: xs)) : IsI w (.slice (if cap = 1 then some ⟨g, off, none⟩ else some ⟨g, off + 1, none⟩) xs.length (cap - 1)) xs := by
  by_cases hc : cap = 1
  · rw [if_pos hc]
    have hl := h.len
    simp only [List.length_cons] at hl
    have h0 : xs = [] := List.eq_nil_of_length_eq_zero (by omega)
    subst h0 hc
    rcases h with ⟨h0, _⟩ | ⟨g', off', cap', cur, h1, hh, h2, h3, h4, _⟩
    · cases h0
    · simp only [Value.slice.injEq, Option.some.injEq, Addr.mk.injEq] at h1
      obtain ⟨⟨rfl, rfl, -⟩, rfl, rfl⟩ := h1
      exact .inr ⟨g, off, 0, cur, rfl, hh, Nat.le_refl _, Nat.zero_le _, by omega, fun i hi => by simp at hi⟩
  · rw [if_neg hc]
    exact h.tail

theorem IsI.of_own {w : World} {base : Nat} {v : Value} {n : Nat} {xs : List Nat} {ys : List Value} (h : w.ownsRow base 3 1 v n ys) (hy : ys = ints xs) : IsI w v xs ∧ ∀ g, v.ownBlock = some g → base ≤ g := by
  subst hy
  have hn : xs.length = n := by have := h.1; rw [ints_len] at this; omega
  rcases h.2 with ⟨rfl, rfl⟩ | ⟨g, cap, cur, rfl, hb, hh, h2, h3, h4, h5⟩
  · exact ⟨.inl ⟨rfl, List.eq_nil_of_length_eq_zero hn⟩, fun g hg => by cases hg⟩
  · refine ⟨.inr ⟨g, 0, cap, cur, by rw [hn], hh, by omega, h3, by omega, fun i hi => ?_⟩, fun g' hg' => by obtain rfl : g = g' := by simpa [Value.ownBlock] using hg'
                                                                                                            exact hb⟩
    have e := ints_get xs i hi
    rw [← h5, Nat.mul_one, List.getElem?_take, if_pos (by omega)] at e
    simpa using e

/-- A row behind some stores. -/
theorem heap_setCells {g : Nat} {e : TypeId} {fz : Nat × Nat} : ∀ (vs : List Value) (o : Nat) (w : World) (cur : Array Value), w.heap[g]? = some (.cells cur e fz) → o + vs.length ≤ cur.size →
    ∃ cur', (w.setCells g o vs).heap[g]? = some (.cells cur' e fz) ∧ cur'.size = cur.size ∧ (∀ j, j < vs.length → cur'[o + j]? = vs[j]?) ∧ (∀ j, j < o → cur'[j]? = cur[j]?) ∧ w.grownBy (w.setCells g o vs) (some g)
  | [], o, w, cur, h, _ => ⟨cur, h, rfl, fun j hj => by simp at hj, fun _ _ => rfl, ⟨rfl, rfl, rfl, Nat.le_refl _, fun _ _ _ => rfl⟩⟩
  | v :: vs, o, w, cur, h, hl => by
    simp only [List.length_cons] at hl
    have h1 := Mm.heap_setCell_at (o := o) h v
    obtain ⟨cur', h2, h3, h4, h5, h6⟩ := heap_setCells vs (o + 1) _ _ h1 (by simp; omega)
    refine ⟨cur', h2, by simpa using h3, ?_, ?_, ?_⟩
    · intro j hj
      cases j with
      | zero => rw [Nat.add_zero, h5 o (by omega)]; simp [show o < cur.size by omega]
      | succ j =>
        have := h4 j (by simpa using hj)
        rw [show o + (j + 1) = o + 1 + j by omega, this]
        simp
    · intro j hj
      rw [h5 j (by omega)]
      rw [Array.getElem?_setIfInBounds_ne (by omega)]
    · exact ⟨h6.os, h6.tape, h6.output, Nat.le_trans (by simp [World.setCell]) h6.size, fun k hk hne => (h6.block k (by simpa [World.setCell] using hk) hne).trans (Below.heap_setCell _ _ _ _ (by intro e; exact hne (by simpa using e)))⟩

theorem Tryd.info3 : (Tryd.prog.info? 3).map (fun i => (i.zero, i.size, i.bytes)) = some (some (.int .i64 0), 1, 8) := by kernel_rfl

/-- Append: the slice is then of both lists, in the row that it had, or in a new one. -/
theorem run_append_ints {w : World} {v : Value} {xs ys : List Nat} (hI : IsI w v xs) (ty : TypeId) (ad : Addr) (c : Nat) (hy : ys ≠ []) (hys : ∀ j u, (ints ys)[j]? = some u → w.cell? (ad.add j) = some u) (hl : xs.length + ys.length ≤ 1000000) :
    ∃ v' w', (Builtin.append_ #[25, 25] ty #[v, .slice (some ad) ys.length c]).run Tryd.prog w = .ok v' w' ∧ IsI w' v' (xs ++ ys) ∧ w.grownBy w' v.ownBlock ∧ (v'.ownBlock = v.ownBlock ∨ ∃ g, v'.ownBlock = some g ∧ w.heap.size ≤ g) := by
  obtain ⟨i0, hi, hz0, hz1, hz2⟩ := info_parts Tryd.info3
  have hy1 : 0 < ys.length := List.length_pos_iff.2 hy
  rcases hI with ⟨rfl, rfl⟩ | ⟨g, off, cap, cur, rfl, hh, h2, h3, h4, hc⟩
  · obtain ⟨v', w', hr, h2, h3, _, _⟩ := run_append_own_at (P := Tryd.prog) w w.heap.size 25 ty 3 i0 (.int .i64 0) 1 8 Tryd.underlying25 hi hz0 hz1 hz2 rfl (by decide) (.slice none 0 0) 0 [] (World.ownsRow_nil _ _ _ _) ad ys.length c (ints ys) (by rw [ints_len]; omega) hys (ints_one _) (by unfold maxLen; simp at hl; omega) (by simp at hl; omega) (Nat.le_refl _)
    obtain ⟨q1, q2⟩ := IsI.of_own h2 (xs := [] ++ ys) (by simp)
    refine ⟨v', w', hr, q1, h3, .inr ?_⟩
    rcases h2.2 with ⟨_, h0⟩ | ⟨g, cap, cur, rfl, hb, _⟩
    · omega
    · exact ⟨g, rfl, hb⟩
  · by_cases hroom : xs.length + ys.length ≤ cap
    · have e1 : xs.length * i0.size = xs.length := by rw [hz1]; omega
      have hcell : ∀ j, j < (ints ys).length → w.cell? ⟨g, off + xs.length * i0.size + j, none⟩ = cur[off + xs.length + j]? := fun j _ => by rw [e1]; simp [World.cell?, hh]
      have hr := run_append_room_cells (P := Tryd.prog) w 25 ty 3 i0 Tryd.underlying25 hi g off xs.length cap ad ys.length c (ints ys) (by rw [ints_len, hz1]; omega) hys (ints_one _) hroom
        (fun j hj => by rw [hcell j hj]; rw [ints_len] at hj; rw [Array.getElem?_eq_getElem (by omega)]; rfl) (fun j _ => by simp [World.frozen?, hh])
      rw [e1] at hr
      obtain ⟨cur', k1, k2, k3, k4, k5⟩ := heap_setCells (ints ys) (off + xs.length) w cur hh (by rw [ints_len]; omega)
      refine ⟨_, _, hr, .inr ⟨g, off, cap, cur', by rw [List.length_append], k1, by rw [List.length_append]; exact hroom, h3, by omega, fun i hi => ?_⟩, k5, .inl rfl⟩
      rw [List.length_append] at hi
      by_cases hx : i < xs.length
      · rw [k4 _ (by omega), hc i hx]
        simp [List.getElem?_append_left hx]
      · have := k3 (i - xs.length) (by rw [ints_len]; omega)
        rw [show off + i = off + xs.length + (i - xs.length) by omega, this, ints_get ys _ (by omega)]
        simp [List.getElem?_append_right (show xs.length ≤ i by omega)]
    · have holds : ∀ j u, (ints xs)[j]? = some u → w.cell? ((⟨g, off, none⟩ : Addr).add j) = some u := by
        intro j u hj
        have hjl : j < xs.length := by
          have := (List.getElem?_eq_some_iff.1 hj).1
          rwa [ints_len] at this
        rw [Addr.add_lit]
        rw [ints_get xs j hjl] at hj
        simp only [World.cell?, hh, hc j hjl]
        exact hj
      obtain ⟨v', w', hr, h5, h6⟩ := run_append_arg_grows (P := Tryd.prog) w 25 ty 3 i0 (.int .i64 0) 1 8 Tryd.underlying25 hi hz0 hz1 hz2 rfl (by decide) ⟨g, off, none⟩ xs.length cap (ints xs) (by rw [ints_len]; omega) holds ad ys.length c (ints ys) (by rw [ints_len]; omega) hys (by omega) (by unfold maxLen; omega) (by omega)
      obtain ⟨q1, q2⟩ := IsI.of_own h5 (xs := xs ++ ys) (by simp [ints])
      refine ⟨v', w', hr, q1, ⟨h6.os, h6.tape, h6.output, h6.size, fun k hk _ => h6.block k hk (by simp)⟩, .inr ?_⟩
      rcases h5.2 with ⟨_, h0⟩ | ⟨g', cap', cur', rfl, hb, _⟩
      · omega
      · exact ⟨g', rfl, hb⟩

/-- The same for the walk. -/
theorem wpList_append_ints {w : World} {ops : Array Oper} {rest : List Oper} {o : Oper} {a : Act} {Q : Exit → Act → World → Prop} (hgd : o.guard = none) (s x : Operand)
    (ho : o.op = .call { callee := .builtin .append, args := #[s, x], argTypes := #[25, 25] })
    (v : Value) (xs ys : List Nat) (hs : a.eval s = v) (hI : IsI w v xs) (ad : Addr) (n c : Nat) (hx : a.eval x = .slice (some ad) n c) (hn : n = ys.length) (hy : ys ≠ [])
    (hys : ∀ j u, (ints ys)[j]? = some u → w.cell? (ad.add j) = some u) (hl : xs.length + ys.length ≤ 1000000)
    (h : ∀ v' w', IsI w' v' (xs ++ ys) → w.grownBy w' v.ownBlock → (v'.ownBlock = v.ownBlock ∨ ∃ g, v'.ownBlock = some g ∧ w.heap.size ≤ g) → wpList Tryd.prog ops Q rest (a.put o.dst v') w') : wpList Tryd.prog ops Q (o :: rest) a w := by
  subst hn
  refine wpList_plain hgd fun K hK => ?_
  obtain ⟨v', w', hr, h2, h3, h4⟩ := run_append_ints hI o.type ad c hy hys hl
  unfold Oper.wp execOp
  simp only [ho, resolve, invoke, builtin, Sem.run_bind, Sem.run_pure, Result.andThen_ok, List.map_toArray, List.map_cons, List.map_nil, hs, hx, hr]
  exact hK _ _ (h v' w' h2 h3 h4)

theorem one_new (w : World) (y : Nat) (t : TypeId) : ∀ j u, (ints [y])[j]? = some u → (w.alloc (.cells #[.int .i64 (y : Nat)] t)).cell? ((⟨w.heap.size, 0, none⟩ : Addr).add j) = some u := cell_one_new w _ t
end Go.Proofs.YtjbjijkkmlehgaaDoor
/- The contracts of the reference's List and of stack's: the slots of the free list of any words. -/
namespace Go.Proofs.YtjbjijkkmlehgaaDoor
open Go.RowKit

/-- The free list from a number on, no more slots than n. -/
def walkL (K : Cf) (X : List Nat) : Nat → Nat → List Nat
  | 0, _ => []
  | n + 1, x => if 1 ≤ x ∧ x ≤ K.S then (x - 1) :: walkL K X n (X.getD (K.lk (x - 1)) 0) else []
def lst (K : Cf) (X : List Nat) : List Nat := walkL K X K.S (X.getD 3 0 % 65536)

theorem walkL_len (K : Cf) (X : List Nat) : ∀ n x, (walkL K X n x).length ≤ n
  | 0, _ => by simp [walkL]
  | n + 1, x => by
    unfold walkL
    split
    · exact Nat.succ_le_succ (walkL_len K X n _)
    · simp
theorem lst_len (K : Cf) (X : List Nat) : (lst K X).length ≤ K.S := walkL_len K X _ _

/-- Words that a slice has. -/
def RdW (w : World) (b off : Nat) (X : List Nat) : Prop := b < w.heap.size ∧ ∀ i, i < X.length → w.cell? ⟨b, off + i, none⟩ = some (.int .u64 (X.getD i 0 : Nat))
theorem RdW.below {w w' : World} {b off : Nat} {X : List Nat} (h : RdW w b off X) (k : Below w.heap.size w w') : RdW w' b off X :=
  ⟨Nat.lt_of_lt_of_le h.1 k.size, fun i hi => (k.cell (p := ⟨b, off + i, none⟩) h.1).trans (h.2 i hi)⟩
theorem RdW.of_words {w : World} {R : Nat} {X : List Nat} (h : Mm.IsWords w R X) : RdW w R 0 X := ⟨lt_of_block (show w.heap[R]? = _ from h), fun i hi => by rw [Nat.zero_add]; exact Mm.words_at h i hi⟩

/-- All that is known of the world while the list is laid. -/
structure Ls (w wr : World) (K : Cf) (X : List Nat) (v : Value) (xs : List Nat) (x : Nat) : Prop where
  own : IsI wr v xs
  base : ∀ g, v.ownBlock = some g → w.heap.size + 1 ≤ g
  cfg : IsCfg wr w.heap.size K.S K.a K.C K.D K.g K.k
  bel : Below w.heap.size w wr
  eq : lst K X = xs ++ walkL K X (K.S - xs.length) x
  lt : x < 18446744073709551616
  le : xs.length ≤ K.S

theorem Ls.below {w wr w1 : World} {K : Cf} {X : List Nat} {v : Value} {xs : List Nat} {x : Nat} (h : Ls w wr K X v xs x) (b : Below wr.heap.size wr w1) : Ls w w1 K X v xs x :=
  ⟨h.own.below b, h.base, h.cfg.below b, h.bel.trans (b.mono h.bel.size), h.eq, h.lt, h.le⟩

theorem Ls.step {w wr w1 : World} {K : Cf} {X : List Nat} {v v' : Value} {xs : List Nat} {s : Nat} (h : Ls w wr K X v xs (s + 1)) (hs : s < K.S) (hl : xs.length < K.S) (o : Obj)
    (hI : IsI w1 v' (xs ++ [s])) (hg : (wr.alloc o).grownBy w1 v.ownBlock) (hp : v'.ownBlock = v.ownBlock ∨ ∃ g, v'.ownBlock = some g ∧ wr.heap.size + 1 ≤ g) (hX : ∀ i, X.getD i 0 < 18446744073709551616) : Ls w w1 K X v' (xs ++ [s]) (X.getD (K.lk s) 0) := by
  have hb : ∀ i, i ≤ w.heap.size → w1.heap[i]? = wr.heap[i]? := fun i hi => by
    have hlt := h.cfg.lt
    rw [hg.block i (by simp; omega) (fun e => by have := h.base i e.symm; omega)]
    exact (alloc_below wr o).block i (by omega)
  refine ⟨hI, ?_, ?_, ?_, ?_, hX _, by simp; omega⟩
  · intro g hgv
    rcases hp with e | ⟨g', e, hg'⟩
    · exact h.base g (e ▸ hgv)
    · rw [e] at hgv
      have hlt := h.cfg.lt
      simp at hgv
      omega
  · show w1.heap[w.heap.size]? = _
    rw [hb _ (Nat.le_refl _)]; exact h.cfg
  · exact ⟨hg.os.trans h.bel.os, hg.tape.trans h.bel.tape, hg.output.trans h.bel.output, Nat.le_trans h.bel.size (Nat.le_trans (by simp) hg.size), fun i hi => (hb i (by omega)).trans (h.bel.block i hi)⟩
  · rw [h.eq, show K.S - xs.length = (K.S - (xs ++ [s]).length) + 1 by simp; omega]
    conv => lhs; unfold walkL
    rw [if_pos ⟨by omega, by omega⟩, Nat.add_sub_cancel]
    simp

theorem Ls.done {w wr : World} {K : Cf} {X : List Nat} {v : Value} {xs : List Nat} {x : Nat} (h : Ls w wr K X v xs x) (he : ¬ (1 ≤ x ∧ x ≤ K.S) ∨ ¬ xs.length < K.S) : IsI wr v (lst K X) ∧ (∀ g, v.ownBlock = some g → w.heap.size ≤ g) ∧ Below w.heap.size w wr := by
  have e : lst K X = xs := by
    rw [h.eq]
    cases hn : K.S - xs.length with
    | zero => simp [walkL]
    | succ n =>
      unfold walkL
      rw [if_neg (by rcases he with he | he <;> omega)]
      simp
  rw [e]
  exact ⟨h.own, fun g hg => by have := h.base g hg; omega, h.bel⟩

theorem at_link {K : Cf} (hK : K.Ok) (s : Nat) (hs : s < K.S) (w : World) :
    Calls Tryd.prog 23 #[.agg K.cs, .agg #[.string ⟨#[108, 105, 110, 107]⟩, .int .i64 (s : Nat), .int .i64 0]] w fun e w' => e = .returned (.int .i64 (K.lk s : Nat)) ∧ Below w.heap.size w w' :=
  at_yes hK.r hK.b hK.b8 9 s 0 (K.lk s) (by omega) (hK.lk_lt hs) (wat_link K.C K.D K.B s) w

/-- A slice's length. -/
def slLen : Value → Nat
  | .slice _ n _ => n
  | _ => 0
theorem IsI.slLen {w : World} {v : Value} {xs : List Nat} (h : IsI w v xs) : slLen v = xs.length := by
  obtain ⟨ad, cap, rfl, _⟩ := h.form
  rfl

set_option maxHeartbeats 4000000 in
theorem rlist_yes {K : Cf} (hK : K.Ok) {w : World} {b off cap : Nat} {X : List Nat} (hR : RdW w b off X) (hX : X.length = K.N) (hlt : ∀ i, X.getD i 0 < 18446744073709551616) :
    Calls Tryd.prog 14 #[.agg K.cs, .slice (some ⟨b, off, none⟩) K.N cap] w fun e w' => ∃ v, e = .returned v ∧ IsI w' v (lst K X) ∧ (∀ g, v.ownBlock = some g → w.heap.size ≤ g) ∧ Below w.heap.size w w' := by
  have c1 := rright_any K.S K.a K.C K.D K.g K.k
  rw [hK.r] at c1
  have c2 := words_r K.C K.D K.S K.B K.a K.g K.k hK.c8 hK.d16 hK.s64 hK.b hK.b8
  rw [show nW K.C K.D K.B K.S = K.N from rfl] at c2
  have c3 := at_link hK
  have hN := hK.N_b
  have hS := hK.s64
  have hlk : ∀ s, s < K.S → K.lk s < K.N := fun s hs => hK.lk_lt hs
  have bel := alloc_below w (.cells #[.int .i64 (K.S : Nat), .int .i64 K.a, .int .i64 (K.C : Nat), .int .i64 (K.D : Nat), .int .i64 K.g, .int .i64 K.k] 23)
  have hh := cfg_new w K.S K.a K.C K.D K.g K.k
  go_enter Tryd.func14, Tryd.ntmps14
  go_upto_region 1 with fail
  generalize w.alloc (.cells #[.int .i64 (K.S : Nat), .int .i64 K.a, .int .i64 (K.C : Nat), .int .i64 (K.D : Nat), .int .i64 K.g, .int .i64 K.k] 23) = w0 at *
  obtain ⟨l0, l1, l2, l3, l4, l5⟩ := hh.cells
  go_upto_region 4 with (first
    | (go_at_call 28; refine (c1 _).mono ?_; rintro e w1 ⟨rfl, hb⟩; replace bel := seq_below bel hb; replace hh := hh.below hb; clear hb l0 l1 l2 l3 l4 l5; obtain ⟨l0, l1, l2, l3, l4, l5⟩ := hh.cells)
    | (go_at_call 31; refine (c2 _).mono ?_; rintro e w1 ⟨R, cap2, rfl, _, _, hb⟩; replace bel := seq_below bel hb; replace hh := hh.below hb; clear hb l0 l1 l2 l3 l4 l5; obtain ⟨l0, l1, l2, l3, l4, l5⟩ := hh.cells))
  have q3 := (hR.below bel).2 3 (by omega)
  have h3 := hlt 3
  have ls : Ls w w1 K X (.slice none 0 0) [] (X.getD 3 0 % 65536) := ⟨IsI.nil _, (fun g hg => by cases hg), hh, bel, rfl, by omega, Nat.zero_le _⟩
  clear bel hh c1 c2
  have hR' : ∀ w', Below w.heap.size w w' → RdW w' b off X := fun w' h => hR.below h
  clear hR
  go_wp2
  go_loopw [5, 6] (fun v x wr => ∃ (xs : List Nat) (y : Nat), x = .int .u64 (y : Nat) ∧ Ls w wr K X v xs y) (fun v _ _ => K.S - slLen v)
  case atStart => exact ⟨[], X.getD 3 0 % 65536, by go_num, ls⟩
  case round =>
    clear ls q3 h3 l0 l1 l2 l3 l4 l5
    obtain ⟨xs, y, rfl, ls⟩ := hrel
    obtain ⟨l0, l1, l2, l3, l4, l5⟩ := ls.cfg.cells
    obtain ⟨ad, cp, hv, hcp, _⟩ := ls.own.form
    have hyl := ls.lt
    have hle := ls.le
    by_cases hy : 1 ≤ y ∧ y ≤ K.S
    · by_cases hl : xs.length < K.S
      · obtain ⟨s, rfl⟩ : ∃ s, y = s + 1 := ⟨y - 1, by omega⟩
        have hs : s < K.S := by omega
        have d3 := c3 s hs
        have hL := hlk s hs
        have hy2 := hy.2
        subst hv
        go_wp2_with (first
          | (at_builtin; refine wpList_append_ints rfl _ _ rfl _ xs [s] rfl (ls.own.below (alloc_below _ _)) ⟨_, 0, none⟩ 1 1 rfl rfl (by simp) (one_new _ _ _) ?c3 ?_))
        case c3 => simp; omega
        intro v' w2 hI hg hp
        have ls' := ls.step hs hl _ hI hg hp hlt
        clear hI hg hp l0 l1 l2 l3 l4 l5 ls hyl hy
        obtain ⟨l0, l1, l2, l3, l4, l5⟩ := ls'.cfg.cells
        have hx := hlt (K.lk s)
        have q0 : ∀ w', Below w.heap.size w w' → w'.cell? ⟨b, off + K.lk s, none⟩ = some (.int .u64 (X.getD (K.lk s) 0 : Nat)) := fun w' h => (hR' w' h).2 (K.lk s) (by omega)
        generalize X.getD (K.lk s) 0 = nv at *
        go_wp2_with (first
          | (go_at_call 23; refine (d3 _).mono ?_; rintro e w3 ⟨rfl, hb⟩; replace ls' := ls'.below hb; have q := q0 _ ls'.bel; clear hb l0 l1 l2 l3 l4 l5))
        go_roundw
        case rel => exact ⟨_, _, rfl, ls'⟩
        case measure => rw [ls'.own.slLen]; simp [slLen]; omega
      · subst hv
        go_wp2
        go_ret
        exact ⟨_, rfl, ls.done (.inr hl)⟩
    · subst hv
      go_wp2
      all_goals go_ret
      all_goals exact ⟨_, rfl, ls.done (.inl hy)⟩
end Go.Proofs.YtjbjijkkmlehgaaDoor
/- Both Lists where there is nothing to tell; the reference's Same of one list twice, and Has. -/
namespace Go.Proofs.YtjbjijkkmlehgaaDoor
open Go.RowKit

set_option maxHeartbeats 1000000 in
theorem rlist_wrong {s a c d g k : Int} (hr : rightB s a c d g k = false) (ad : Option Addr) (n cap : Nat) (w : World) :
    Calls Tryd.prog 14 #[.agg (cs s a c d g k), .slice ad n cap] w fun e w' => e = .returned (.slice none 0 0) ∧ Below w.heap.size w w' := by
  have c1 := rright_any s a c d g k
  rw [hr] at c1
  have bel := alloc_below w (.cells #[.int .i64 s, .int .i64 a, .int .i64 c, .int .i64 d, .int .i64 g, .int .i64 k] 23)
  clear hr
  go_enter Tryd.func14, Tryd.ntmps14
  go_wp2_with (go_at_call 28; refine (c1 _).mono ?_; rintro e w1 ⟨rfl, hb⟩; replace bel := seq_below bel hb)
  go_ret
  exact ⟨rfl, bel⟩

set_option maxHeartbeats 1000000 in
theorem rlist_no {K : Cf} (hK : K.Ok) (ad : Option Addr) (n cap : Nat) (hn : n ≠ K.N) (w : World) :
    Calls Tryd.prog 14 #[.agg K.cs, .slice ad n cap] w fun e w' => e = .returned (.slice none 0 0) ∧ Below w.heap.size w w' := by
  have c1 := rright_any K.S K.a K.C K.D K.g K.k
  rw [hK.r] at c1
  have c2 := words_r K.C K.D K.S K.B K.a K.g K.k hK.c8 hK.d16 hK.s64 hK.b hK.b8
  rw [show nW K.C K.D K.B K.S = K.N from rfl] at c2
  have hne : ((n : Int) != (K.N : Int)) = true := by simp; omega
  have bel := alloc_below w (.cells #[.int .i64 (K.S : Nat), .int .i64 K.a, .int .i64 (K.C : Nat), .int .i64 (K.D : Nat), .int .i64 K.g, .int .i64 K.k] 23)
  have hh := cfg_new w K.S K.a K.C K.D K.g K.k
  go_enter Tryd.func14, Tryd.ntmps14
  go_upto_region 1 with fail
  generalize w.alloc (.cells #[.int .i64 (K.S : Nat), .int .i64 K.a, .int .i64 (K.C : Nat), .int .i64 (K.D : Nat), .int .i64 K.g, .int .i64 K.k] 23) = w0 at *
  obtain ⟨l0, l1, l2, l3, l4, l5⟩ := hh.cells
  go_wp2_with (first
    | (go_at_call 28; refine (c1 _).mono ?_; rintro e w1 ⟨rfl, hb⟩; replace bel := seq_below bel hb; replace hh := hh.below hb; clear hb l0 l1 l2 l3 l4 l5; obtain ⟨l0, l1, l2, l3, l4, l5⟩ := hh.cells)
    | (go_at_call 31; refine (c2 _).mono ?_; rintro e w1 ⟨R, cap2, rfl, _, _, hb⟩; replace bel := seq_below bel hb; replace hh := hh.below hb; clear hb l0 l1 l2 l3 l4 l5; obtain ⟨l0, l1, l2, l3, l4, l5⟩ := hh.cells))
  go_ret
  exact ⟨rfl, bel⟩

/-! Same -/
set_option maxHeartbeats 1000000 in
theorem same_yes {v1 v2 : Value} {xs : List Nat} {w : World} (h1 : IsI w v1 xs) (h2 : IsI w v2 xs) (hl : xs.length ≤ 65536) :
    Calls Tryd.prog 27 #[v1, v2] w fun e w' => e = .returned (.bool true) ∧ Below w.heap.size w w' := by
  obtain ⟨a1, p1, rfl, _, f1⟩ := h1.form
  obtain ⟨a2, p2, rfl, _, f2⟩ := h2.form
  generalize hn : xs.length = n at *
  have H1 : ∀ k, k < n → ∃ g off, a1 = some ⟨g, off, none⟩ ∧ w.cell? ⟨g, off + k, none⟩ = some (.int .i64 (xs.getD k 0 : Nat)) := fun k hk => by
    obtain ⟨g, off, rfl⟩ := f1 (by rintro rfl; simp at hn; omega)
    exact ⟨g, off, rfl, h1.cell k (by omega)⟩
  have H2 : ∀ k, k < n → ∃ g off, a2 = some ⟨g, off, none⟩ ∧ w.cell? ⟨g, off + k, none⟩ = some (.int .i64 (xs.getD k 0 : Nat)) := fun k hk => by
    obtain ⟨g, off, rfl⟩ := f2 (by rintro rfl; simp at hn; omega)
    exact ⟨g, off, rfl, h2.cell k (by omega)⟩
  clear h1 h2 f1 f2 hn
  go_enter Tryd.func27, Tryd.ntmps27
  go_wp2
  go_loopw [5] (fun i wr => ∃ k : Nat, k ≤ n ∧ i = .int .i64 k ∧ Hid (∃ m, wr = w.drewN m)) (fun i _ => n - (intOf i).toNat)
  case atStart => exact ⟨0, Nat.zero_le _, rfl, 0, rfl⟩
  case round =>
    obtain ⟨k, hk, rfl, hW⟩ := hrel
    by_cases hkl : k < n
    · obtain ⟨g1, o1, rfl, q1⟩ := H1 k hkl
      obtain ⟨g2, o2, rfl, q2⟩ := H2 k hkl
      have hc1 : wr.cell? ⟨g1, o1 + k, none⟩ = some (.int .i64 (xs.getD k 0 : Nat)) := by obtain ⟨m, rfl⟩ := hW.out; exact q1
      have hc2 : wr.cell? ⟨g2, o2 + k, none⟩ = some (.int .i64 (xs.getD k 0 : Nat)) := by obtain ⟨m, rfl⟩ := hW.out; exact q2
      clear H1 H2 q1 q2
      generalize xs.getD k 0 = v at *
      go_wp2_with fail
      go_quiet (fail)
      go_wp2
      go_roundw
      case rel => exact ⟨k + 1, by omega, by go_num, Mm.drew_on hW _⟩
      case measure => simp [intOf]; omega
    · have hkn : k = n := by omega
      subst hkn
      clear H1 H2
      go_wp2
      go_ret
      obtain ⟨m, rfl⟩ := hW.out
      exact ⟨rfl, below_drewN (Below.refl _ _) _⟩

/-! Has -/
set_option maxHeartbeats 1000000 in
theorem has_any {v : Value} {xs : List Nat} {w : World} (h : IsI w v xs) (hl : xs.length ≤ 65536) (x : Nat) :
    Calls Tryd.prog 17 #[v, .int .i64 (x : Nat)] w fun e w' => e = .returned (.bool (decide (x ∈ xs))) ∧ w = w' := by
  obtain ⟨a1, p1, rfl, _, f1⟩ := h.form
  have hb : ∀ k, k < xs.length → (xs.getD k 0 = x → x ∈ xs) := fun k hk e => by
    rw [← e]
    simp [hk]
  have hno : (∀ j, j < xs.length → xs.getD j 0 ≠ x) → ¬ x ∈ xs := fun ha hm => by
    obtain ⟨j, hj, e⟩ := List.mem_iff_getElem.1 hm
    exact ha j hj (by simp [hj, e])
  generalize hn : xs.length = n at *
  have H1 : ∀ k, k < n → ∃ g off, a1 = some ⟨g, off, none⟩ ∧ w.cell? ⟨g, off + k, none⟩ = some (.int .i64 (xs.getD k 0 : Nat)) := fun k hk => by
    obtain ⟨g, off, rfl⟩ := f1 (by rintro rfl; simp at hn; omega)
    exact ⟨g, off, rfl, h.cell k (by omega)⟩
  clear h f1 hn
  go_enter Tryd.func17, Tryd.ntmps17
  go_wp2
  go_loop [5] (fun i => ∃ k : Nat, k ≤ n ∧ i = .int .i64 k ∧ ∀ j, j < k → xs.getD j 0 ≠ x) (fun i => n - (intOf i).toNat)
  case atStart => exact ⟨0, Nat.zero_le _, rfl, fun j hj => by omega⟩
  case round =>
    obtain ⟨k, hk, rfl, hA⟩ := hrel
    by_cases hkl : k < n
    · obtain ⟨g1, o1, rfl, q1⟩ := H1 k hkl
      by_cases he : xs.getD k 0 = x
      · have hm := hb k hkl he
        rw [he] at q1
        clear H1 hb hno hA he
        go_wp2
        go_ret
        exact ⟨by simp, rfl⟩
      · have hA' : ∀ j, j < k + 1 → xs.getD j 0 ≠ x := fun j hj => by
          by_cases e : j = k
          · rw [e]; exact he
          · exact hA j (by omega)
        have hd : ((xs.getD k 0 : Nat) : Int) ≠ (x : Int) := by omega
        clear H1 hb hno hA he
        have HA : Hid (∀ j, j < k + 1 → xs.getD j 0 ≠ x) := hA'
        clear hA'
        generalize xs.getD k 0 = v at *
        go_wp2
        go_round
        case rel => exact ⟨k + 1, by omega, by go_num, HA.out⟩
        case measure => simp [intOf]; omega
    · have hkn : k = n := by omega
      subst hkn
      have hm := hno hA
      clear H1 hb hno hA
      go_wp2
      go_ret
      exact ⟨by simp, rfl⟩
end Go.Proofs.YtjbjijkkmlehgaaDoor
/- The free list as a chain of words; what a Pop and a Push alone do to it: no program in sight. -/
namespace Go.Proofs.YtjbjijkkmlehgaaDoor
open Mm (MS touched)
open Tg (movedW)

/-- The chain from a number on. -/
def Ch (K : Cf) (X : List Nat) : Nat → List Nat → Prop
  | x, [] => ¬ (1 ≤ x ∧ x ≤ K.S)
  | x, s :: F => x = s + 1 ∧ s < K.S ∧ Ch K X (X.getD (K.lk s) 0) F

theorem Ch.walk {K : Cf} {X : List Nat} : ∀ {F : List Nat} {x n : Nat}, Ch K X x F → F.length ≤ n → walkL K X n x = F
  | [], x, n, h, _ => by
    cases n with
    | zero => rfl
    | succ n => unfold walkL; rw [if_neg h]
  | s :: F, x, n, h, hl => by
    obtain ⟨rfl, hs, h2⟩ := h
    cases n with
    | zero => simp at hl
    | succ n =>
      unfold walkL
      rw [if_pos ⟨by omega, by omega⟩, Nat.add_sub_cancel, h2.walk (by simpa using hl)]
theorem Ch.lt {K : Cf} {X : List Nat} : ∀ {F : List Nat} {x : Nat}, Ch K X x F → ∀ s ∈ F, s < K.S
  | s :: F, x, h, t, ht => by
    obtain ⟨rfl, hs, h2⟩ := h
    rcases List.mem_cons.1 ht with rfl | ht
    · exact hs
    · exact h2.lt t ht
theorem Ch.kept {K : Cf} {X Y : List Nat} : ∀ {F : List Nat} {x : Nat}, Ch K X x F → (∀ s ∈ F, Y.getD (K.lk s) 0 = X.getD (K.lk s) 0) → Ch K Y x F
  | [], _, h, _ => h
  | s :: F, x, h, hk => by
    obtain ⟨rfl, hs, h2⟩ := h
    refine ⟨rfl, hs, ?_⟩
    rw [hk s (by simp)]
    exact h2.kept fun t ht => hk t (by simp [ht])
theorem Ch.nmd_nil {K : Cf} {X : List Nat} {x : Nat} (h : Ch K X x []) : nmd K.S x = -1 := by
  rcases nmd_cases K.S x with e | ⟨s, hs, e, rfl⟩
  · exact e
  · exact absurd ⟨by omega, by omega⟩ h
theorem Ch.nmd_cons {K : Cf} {X : List Nat} {x s : Nat} {F : List Nat} (h : Ch K X x (s :: F)) : nmd K.S x = (s : Int) := by
  obtain ⟨rfl, hs, _⟩ := h
  exact nmd_of hs
/-- A chain goes on from the number that its slot has, or 0. -/
theorem Ch.tosl {K : Cf} (hS : K.S ≤ 64) {X : List Nat} {x : Nat} {F : List Nat} (h : Ch K X x F) : Ch K X (Tg.sl (nmd K.S x)) F := by
  cases F with
  | nil =>
    rw [h.nmd_nil]
    show ¬ (1 ≤ Tg.sl (-1) ∧ Tg.sl (-1) ≤ K.S)
    unfold Tg.sl
    rw [if_neg (by omega)]
    omega
  | cons s F =>
    rw [h.nmd_cons]
    obtain ⟨rfl, hs, h2⟩ := h
    have e : Tg.sl (s : Int) = s + 1 := by unfold Tg.sl; rw [if_pos (by omega)]; omega
    rw [e]
    exact ⟨rfl, hs, h2⟩

theorem nodup_len : ∀ (S : Nat) (F : List Nat), F.Nodup → (∀ x ∈ F, x < S) → F.length ≤ S
  | 0, F, _, h => by
    cases F with
    | nil => simp
    | cons a F => exact absurd (h a (by simp)) (by omega)
  | S + 1, F, hn, h => by
    have h1 := nodup_len S (F.erase S) (hn.erase S) (fun x hx => by
      have h2 := (List.Nodup.mem_erase_iff hn).1 hx
      have := h x h2.2
      have := h2.1
      omega)
    rw [List.length_erase] at h1
    split at h1 <;> omega

/-- The words have this free list, its top this tag. -/
structure Top (K : Cf) (X : List Nat) (tag : Nat) (F : List Nat) : Prop where
  len : X.length = K.N
  ch : Ch K X (X.getD 3 0 % 65536) F
  tg : X.getD 3 0 / 65536 = tag
  nd : F.Nodup

theorem Top.list {K : Cf} {X : List Nat} {tag : Nat} {F : List Nat} (h : Top K X tag F) : lst K X = F := h.ch.walk (nodup_len K.S F h.nd h.ch.lt)

theorem movedW_mod (W : Nat) (s : Int) : movedW W s % 65536 = Tg.sl s := by
  have := Tg.sl_le s
  unfold movedW
  omega
theorem movedW_div (W : Nat) (s : Int) (h : W / 65536 + 1 < 281474976710656) : movedW W s / 65536 = W / 65536 + 1 := by
  have := Tg.sl_le s
  unfold movedW
  omega

theorem Top.fst {K : Cf} {X : List Nat} {tag s : Nat} {F : List Nat} (h : Top K X tag (s :: F)) : fst K.S (X.getD 3 0) = (s : Int) := h.ch.nmd_cons
theorem Top.fst_nil {K : Cf} {X : List Nat} {tag : Nat} (h : Top K X tag []) : YtjbjijkkmlehgaaDoor.fst K.S (X.getD 3 0) = -1 := h.ch.nmd_nil

/-- The top swapped for its next one, of the second slot. -/
theorem Top.popped {K : Cf} (hK : K.Ok) {X : List Nat} {tag s : Nat} {F : List Nat} (h : Top K X tag (s :: F)) (ht : tag + 1 < 281474976710656) :
    Top K (X.set 3 (movedW (X.getD 3 0) (nmd K.S (X.getD (K.lk s) 0)))) (tag + 1) F := by
  have hN := hK.N_b
  have e3 : ∀ v, (X.set 3 v).getD 3 0 = v := fun v => by rw [getD_set, if_pos ⟨rfl, by have := h.len; omega⟩]
  refine ⟨by simp [h.len], ?_, ?_, (List.nodup_cons.1 h.nd).2⟩
  · rw [e3, movedW_mod]
    refine (h.ch.2.2.tosl hK.s64).kept fun t ht => ?_
    rw [getD_set, if_neg (by have := K.lk_4 t; omega)]
  · rw [e3, movedW_div _ _ (by have := h.tg; omega), h.tg]
/-- A slot laid ahead: its link stored, the top swapped for its next one. -/
theorem Top.linked {K : Cf} {X : List Nat} {tag s : Nat} {F : List Nat} (h : Top K X tag F) (hs : s ∉ F) (v : Nat) : Top K (X.set (K.lk s) v) tag F := by
  have e3 : (X.set (K.lk s) v).getD 3 0 = X.getD 3 0 := by rw [getD_set, if_neg (by have := K.lk_4 s; omega)]
  refine ⟨by simp [h.len], ?_, by rw [e3]; exact h.tg, h.nd⟩
  rw [e3]
  refine h.ch.kept fun t ht => ?_
  rw [getD_set, if_neg (fun (e : K.lk s = K.lk t ∧ _) => hs (by rw [K.lk_inj e.1]; exact ht))]
theorem Top.pushed {K : Cf} (hK : K.Ok) {X : List Nat} {tag s : Nat} {F : List Nat} (h : Top K X tag F) (hs : s ∉ F) (hsS : s < K.S) (ht : tag + 1 < 281474976710656) (hl : X.getD (K.lk s) 0 = (YtjbjijkkmlehgaaDoor.fst K.S (X.getD 3 0) + 1).toNat) :
    Top K (X.set 3 (movedW (X.getD 3 0) (s : Nat))) (tag + 1) (s :: F) := by
  have hN := hK.N_b
  have h64 := hK.s64
  have e3 : ∀ v, (X.set 3 v).getD 3 0 = v := fun v => by rw [getD_set, if_pos ⟨rfl, by have := h.len; omega⟩]
  have el : ∀ v t, (X.set 3 v).getD (K.lk t) 0 = X.getD (K.lk t) 0 := fun v t => by rw [getD_set, if_neg (by have := K.lk_4 t; omega)]
  refine ⟨by simp [h.len], ?_, ?_, List.nodup_cons.2 ⟨hs, h.nd⟩⟩
  · rw [e3, movedW_mod]
    refine ⟨by unfold Tg.sl; rw [if_pos (by omega)]; omega, hsS, ?_⟩
    rw [el, hl]
    have hc := (h.ch.tosl h64).kept (Y := X.set 3 (movedW (X.getD 3 0) (s : Nat))) fun t _ => el _ t
    have e : Tg.sl (nmd K.S (X.getD 3 0 % 65536)) = (YtjbjijkkmlehgaaDoor.fst K.S (X.getD 3 0) + 1).toNat := by
      show Tg.sl (YtjbjijkkmlehgaaDoor.fst K.S (X.getD 3 0)) = _
      rcases fst_cases K.S (X.getD 3 0) with e | ⟨t, ht, e, _⟩
      · rw [e]; rfl
      · rw [e]; unfold Tg.sl; rw [if_pos (by omega)]
    rw [← e]
    exact hc
  · rw [e3, movedW_div _ _ (by have := h.tg; omega), h.tg]

theorem memX_get (C D B N k p : Nat) (h : p < N) : (memX C D B N k).getD p 0 = memK C D B k p := by
  simp [memX, h]
theorem link_new {K : Cf} (hK : K.Ok) {s : Nat} (hs : s < K.S) : (memK0 K).X.getD (K.lk s) 0 = if s + 1 < K.S then s + 2 else 0 := by
  show (memX K.C K.D K.B K.N (K.S - 1)).getD (K.lk s) 0 = _
  rw [memX_get _ _ _ _ _ _ (hK.lk_lt hs)]
  unfold memK
  have h4 := K.lk_4 s
  rw [if_neg (by omega), show wat K.C K.D K.B (K.lk s) = (9, s, 0) from wat_link K.C K.D K.B s]
  by_cases h : s + 1 < K.S
  · rw [if_pos h, if_pos ⟨rfl, by show s < K.S - 1; omega⟩]
  · rw [if_neg h, if_neg (fun e => by have : s < K.S - 1 := e.2; omega)]
theorem ch_new {K : Cf} (hK : K.Ok) : ∀ (n s : Nat), s + n = K.S → Ch K (memK0 K).X (if s < K.S then s + 1 else 0) (List.range' s n)
  | 0, s, h => by rw [if_neg (by omega)]; show ¬ _; omega
  | n + 1, s, h => by
    rw [if_pos (by omega)]
    refine ⟨rfl, by omega, ?_⟩
    rw [link_new hK (by omega)]
    exact ch_new hK n (s + 1) (by omega)
/-- The memory of a right config in which nothing was done. -/
theorem top_new {K : Cf} (hK : K.Ok) : Top K (memK0 K).X 0 (List.range' 0 K.S) := by
  have hN := hK.N_b
  have h1 := hK.s1
  have e : (memK0 K).X.getD 3 0 = 1 := by
    show (memX K.C K.D K.B K.N (K.S - 1)).getD 3 0 = 1
    rw [memX_get _ _ _ _ _ _ (by omega)]
    rfl
  refine ⟨memX_len _ _ _ _ _, ?_, by rw [e], List.nodup_range'⟩
  rw [e]
  have := ch_new hK K.S 0 (by omega)
  rw [if_pos (by omega)] at this
  exact this
end Go.Proofs.YtjbjijkkmlehgaaDoor
/- What keeps the free list whole, whoever makes and frees: no program in sight. -/
namespace Go.Proofs.YtjbjijkkmlehgaaDoor
open Mm (MS touched)
open Tg (movedW)
set_option linter.unusedVariables false

theorem slot_inj {b s t i j : Nat} (hi : i < b) (hj : j < b) (h : s * b + i = t * b + j) : s = t ∧ i = j := by
  have h1 : (s * b + i) % b = i := by rw [Nat.add_comm, Nat.add_mul_mod_self_right, Nat.mod_eq_of_lt hi]
  have h2 : (t * b + j) % b = j := by rw [Nat.add_comm, Nat.add_mul_mod_self_right, Nat.mod_eq_of_lt hj]
  have h3 : i = j := by rw [← h1, ← h2, h]
  subst h3
  have h4 : s * b = t * b := by omega
  exact ⟨Nat.eq_of_mul_eq_mul_right (by omega) h4, rfl⟩
theorem Cf.hd_lk (K : Cf) (s t : Nat) : K.hd s ≠ K.lk t := fun h => by
  unfold Cf.hd Cf.lk at h
  have := slot_inj (b := 2 + K.B) (s := s) (t := t) (i := 0) (j := 1) (by omega) (by omega) (by omega)
  omega
theorem Cf.bd_lk (K : Cf) {s t i : Nat} (hi : i < K.B) : K.bd s i ≠ K.lk t := fun h => by
  unfold Cf.bd Cf.hd Cf.lk at h
  have := slot_inj (b := 2 + K.B) (s := s) (t := t) (i := 2 + i) (j := 1) (by omega) (by omega) (by omega)
  omega
theorem Cf.bd_hd (K : Cf) {s t i : Nat} (hi : i < K.B) : K.bd s i ≠ K.hd t := fun h => by
  unfold Cf.bd Cf.hd at h
  have := slot_inj (b := 2 + K.B) (s := s) (t := t) (i := 2 + i) (j := 0) (by omega) (by omega) (by omega)
  omega
theorem Cf.bd_inj (K : Cf) {s t i j : Nat} (hi : i < K.B) (hj : j < K.B) (h : K.bd s i = K.bd t j) : s = t ∧ i = j := by
  unfold Cf.bd Cf.hd at h
  have := slot_inj (b := 2 + K.B) (s := s) (t := t) (i := 2 + i) (j := 2 + j) (by omega) (by omega) (by omega)
  omega

theorem Top.same {K : Cf} {X Y : List Nat} {tag : Nat} {F : List Nat} (h : Top K X tag F) (hl : Y.length = X.length) (h3 : Y.getD 3 0 = X.getD 3 0) (hk : ∀ s, Y.getD (K.lk s) 0 = X.getD (K.lk s) 0) : Top K Y tag F := by
  refine ⟨hl.trans h.len, ?_, by rw [h3]; exact h.tg, h.nd⟩
  rw [h3]
  exact h.ch.kept fun s _ => hk s
/-- A store at a place that is neither the top nor a link. -/
theorem Top.other {K : Cf} {X : List Nat} {tag i : Nat} {F : List Nat} (h : Top K X tag F) (h3 : i ≠ 3) (hk : ∀ s, i ≠ K.lk s) (v : Nat) : Top K (X.set i v) tag F :=
  h.same (by simp) (by rw [getD_set, if_neg (fun e => h3 e.1)]) (fun s => by rw [getD_set, if_neg (fun e => hk s e.1)])

/-- What a Pop that is under way knows. -/
structure PInv (K : Cf) (X : List Nat) (tag : Nat) (p : PS) : Prop where
  pc : p.pc ≤ 2
  old : 1 ≤ p.pc → p.tp / 65536 ≤ tag ∧ (p.tp / 65536 = tag → X.getD 3 0 = p.tp)
  nx : p.pc = 2 → p.tp / 65536 = tag → p.nx = nmd K.S (X.getD (K.lk (fst K.S p.tp).toNat) 0)
  some : 1 ≤ p.pc → fst K.S p.tp ≠ -1
/-- What a Push that is under way knows. -/
structure QInv (K : Cf) (X : List Nat) (tag : Nat) (q : QS) : Prop where
  pc : q.pc ≤ 2
  old : 1 ≤ q.pc → q.tp / 65536 ≤ tag ∧ (q.tp / 65536 = tag → X.getD 3 0 = q.tp)
  lk : q.pc = 2 → X.getD (K.lk q.sl) 0 = (fst K.S q.tp + 1).toNat

theorem popX_0n {K : Cf} {X : List Nat} {p : PS} {tag : Nat} (h : Top K X tag []) (hp : p.pc = 0) : popX K X p = (X, ⟨p.sl, true, 3, X.getD 3 0, p.nx⟩) := by
  have e := h.fst_nil
  unfold popX
  rw [if_pos hp, if_pos e, if_pos e]
theorem popX_0 {K : Cf} {X : List Nat} {p : PS} {tag s : Nat} {F : List Nat} (h : Top K X tag (s :: F)) (hp : p.pc = 0) : popX K X p = (X, ⟨p.sl, p.em, 1, X.getD 3 0, p.nx⟩) := by
  have e := h.fst
  unfold popX
  rw [if_pos hp, if_neg (by omega), if_neg (by omega)]
theorem popX_1 {K : Cf} {X : List Nat} {p : PS} {s : Nat} (hp : p.pc = 1) (hf : fst K.S p.tp = (s : Int)) : popX K X p = (X, ⟨p.sl, p.em, 2, p.tp, nmd K.S (X.getD (K.lk s) 0)⟩) := by
  unfold popX
  rw [if_neg (by omega), if_pos hp, hf]
  rfl
theorem popX_2 {K : Cf} {X : List Nat} {p : PS} (hp : p.pc = 2) (h : X.getD 3 0 = p.tp) : popX K X p = (X.set 3 (movedW p.tp p.nx), ⟨fst K.S p.tp, p.em, 3, p.tp, p.nx⟩) := by
  unfold popX
  rw [if_neg (by omega), if_neg (by omega), if_pos hp, if_pos h]
theorem popX_2n {K : Cf} {X : List Nat} {p : PS} (hp : p.pc = 2) (h : X.getD 3 0 ≠ p.tp) : popX K X p = (X, ⟨p.sl, p.em, 0, p.tp, p.nx⟩) := by
  unfold popX
  rw [if_neg (by omega), if_neg (by omega), if_pos hp, if_neg h]
theorem pushX_0 {K : Cf} {X : List Nat} {q : QS} (hq : q.pc = 0) : pushX K X q = (X, ⟨q.sl, 1, X.getD 3 0⟩) := by
  unfold pushX
  rw [if_pos hq]
theorem pushX_1 {K : Cf} {X : List Nat} {q : QS} (hq : q.pc = 1) : pushX K X q = (X.set (K.lk q.sl) (fst K.S q.tp + 1).toNat, ⟨q.sl, 2, q.tp⟩) := by
  unfold pushX
  rw [if_neg (by omega), if_pos hq]
theorem pushX_2 {K : Cf} {X : List Nat} {q : QS} (hq : q.pc = 2) (h : X.getD 3 0 = q.tp) : pushX K X q = (X.set 3 (movedW q.tp q.sl), ⟨q.sl, 3, q.tp⟩) := by
  unfold pushX
  rw [if_neg (by omega), if_neg (by omega), if_pos hq, if_pos h]
theorem pushX_2n {K : Cf} {X : List Nat} {q : QS} (hq : q.pc = 2) (h : X.getD 3 0 ≠ q.tp) : pushX K X q = (X, ⟨q.sl, 0, q.tp⟩) := by
  unfold pushX
  rw [if_neg (by omega), if_neg (by omega), if_pos hq, if_neg h]

theorem popCases {K : Cf} (hK : K.Ok) {X : List Nat} {p : PS} {tag : Nat} {F : List Nat} (tp : Top K X tag F) (hi : PInv K X tag p) (ht : tag + 1 < 281474976710656) :
    ((popX K X p).2.pc ≤ 2 ∧ (popX K X p).1 = X ∧ (popX K X p).2.sl = p.sl ∧ (popX K X p).2.em = p.em ∧ PInv K X tag (popX K X p).2) ∨
    (F = [] ∧ (popX K X p).2.pc = 3 ∧ (popX K X p).1 = X ∧ (popX K X p).2.em = true ∧ (popX K X p).2.sl = p.sl) ∨
    (∃ s F', F = s :: F' ∧ (popX K X p).2.pc = 3 ∧ (popX K X p).2.sl = (s : Int) ∧ (popX K X p).2.em = p.em ∧ (∃ v, (popX K X p).1 = X.set 3 v) ∧ Top K (popX K X p).1 (tag + 1) F') := by
  have hpc := hi.pc
  rcases (show p.pc = 0 ∨ p.pc = 1 ∨ p.pc = 2 by omega) with h0 | h1 | h2
  · cases F with
    | nil =>
      right; left
      rw [popX_0n tp h0]
      exact ⟨rfl, rfl, rfl, rfl, rfl⟩
    | cons s F =>
      left
      rw [popX_0 tp h0]
      refine ⟨by show 1 ≤ 2; omega, rfl, rfl, rfl, ⟨by show 1 ≤ 2; omega, fun _ => ⟨Nat.le_of_eq tp.tg, fun _ => rfl⟩, (fun h => by cases h), fun _ => ?_⟩⟩
      show fst K.S (X.getD 3 0) ≠ -1
      rw [tp.fst]; omega
  · left
    rcases fst_cases K.S p.tp with e | ⟨s, hs, e, _⟩
    · exact absurd e (hi.some (by omega))
    · rw [popX_1 h1 e]
      refine ⟨by show 2 ≤ 2; omega, rfl, rfl, rfl, ⟨by show 2 ≤ 2; omega, fun _ => hi.old (by omega), fun _ _ => ?_, fun _ => hi.some (by omega)⟩⟩
      show nmd K.S (X.getD (K.lk s) 0) = nmd K.S (X.getD (K.lk (fst K.S p.tp).toNat) 0)
      rw [e]; rfl
  · have ho := hi.old (by omega)
    by_cases hT : X.getD 3 0 = p.tp
    · have htag : p.tp / 65536 = tag := by rw [← hT]; exact tp.tg
      have hn := hi.nx h2 htag
      cases F with
      | nil => exact absurd (hT ▸ tp.fst_nil) (hi.some (by omega))
      | cons s F =>
        right; right
        have hf : fst K.S p.tp = (s : Int) := hT ▸ tp.fst
        rw [popX_2 h2 hT]
        refine ⟨s, F, rfl, rfl, hf, rfl, ⟨_, rfl⟩, ?_⟩
        show Top K (X.set 3 (movedW p.tp p.nx)) (tag + 1) F
        rw [hn, hf, ← hT]
        exact tp.popped hK ht
    · left
      rw [popX_2n h2 hT]
      exact ⟨by show 0 ≤ 2; omega, rfl, rfl, rfl, ⟨by show 0 ≤ 2; omega, (fun h => by have : 1 ≤ 0 := h; omega), (fun h => by cases h), fun h => by have : 1 ≤ 0 := h; omega⟩⟩

theorem pushCases {K : Cf} (hK : K.Ok) {X : List Nat} {q : QS} {tag : Nat} {F : List Nat} (tp : Top K X tag F) (hi : QInv K X tag q) (hs : q.sl ∉ F) (hsS : q.sl < K.S) (ht : tag + 1 < 281474976710656) :
    ((pushX K X q).2.pc ≤ 2 ∧ (pushX K X q).2.sl = q.sl ∧ QInv K (pushX K X q).1 tag (pushX K X q).2 ∧ Top K (pushX K X q).1 tag F ∧ ((pushX K X q).1 = X ∨ ∃ v, (pushX K X q).1 = X.set (K.lk q.sl) v)) ∨
    ((pushX K X q).2.pc = 3 ∧ (∃ v, (pushX K X q).1 = X.set 3 v) ∧ Top K (pushX K X q).1 (tag + 1) (q.sl :: F)) := by
  have hpc := hi.pc
  have hN := hK.N_b
  rcases (show q.pc = 0 ∨ q.pc = 1 ∨ q.pc = 2 by omega) with h0 | h1 | h2
  · left
    rw [pushX_0 h0]
    exact ⟨by show 1 ≤ 2; omega, rfl, ⟨by show 1 ≤ 2; omega, fun _ => ⟨Nat.le_of_eq tp.tg, fun _ => rfl⟩, fun h => by cases h⟩, tp, .inl rfl⟩
  · left
    rw [pushX_1 h1]
    have ho := hi.old (by omega)
    have e3 : (X.set (K.lk q.sl) (fst K.S q.tp + 1).toNat).getD 3 0 = X.getD 3 0 := by rw [getD_set, if_neg (by have := K.lk_4 q.sl; omega)]
    refine ⟨by show 2 ≤ 2; omega, rfl, ⟨by show 2 ≤ 2; omega, fun _ => ⟨ho.1, fun h => ?_⟩, fun _ => ?_⟩, tp.linked hs _, .inr ⟨_, rfl⟩⟩
    · show (X.set (K.lk q.sl) (fst K.S q.tp + 1).toNat).getD 3 0 = q.tp
      rw [e3]; exact ho.2 h
    · show (X.set (K.lk q.sl) (fst K.S q.tp + 1).toNat).getD (K.lk q.sl) 0 = _
      rw [getD_set, if_pos ⟨rfl, by rw [tp.len]; exact hK.lk_lt hsS⟩]
  · by_cases hT : X.getD 3 0 = q.tp
    · right
      rw [pushX_2 h2 hT]
      refine ⟨rfl, ⟨_, rfl⟩, ?_⟩
      show Top K (X.set 3 (movedW q.tp q.sl)) (tag + 1) (q.sl :: F)
      rw [← hT]
      exact tp.pushed hK hs hsS ht (by rw [hT]; exact hi.lk h2)
    · left
      rw [pushX_2n h2 hT]
      exact ⟨by show 0 ≤ 2; omega, rfl, ⟨by show 0 ≤ 2; omega, (fun h => by have : 1 ≤ 0 := h; omega), fun h => by cases h⟩, tp, .inl rfl⟩

/-- What others' steps do to the words, and what a machine knows behind them. -/
def Eff (K : Cf) (H : List Nat) (X : List Nat) (tag : Nat) (X' : List Nat) (tag' : Nat) : Prop :=
  (X' = X ∧ tag' = tag) ∨ (∃ v s, s ∈ H ∧ X' = X.set (K.lk s) v ∧ tag' = tag) ∨ (∃ v i, i ≠ 3 ∧ (∀ s, i ≠ K.lk s) ∧ X' = X.set i v ∧ tag' = tag) ∨ (∃ v, X' = X.set 3 v ∧ tag' = tag + 1)

theorem PInv.other {K : Cf} {H X X' F : List Nat} {tag tag' : Nat} {p : PS} (tp : Top K X tag F) (hi : PInv K X tag p) (he : Eff K H X tag X' tag') (hH : ∀ s ∈ H, s ∉ F) : PInv K X' tag' p := by
  rcases he with ⟨rfl, rfl⟩ | ⟨v, s, hs, rfl, rfl⟩ | ⟨v, i, h3, hk, rfl, rfl⟩ | ⟨v, rfl, rfl⟩
  · exact hi
  · have e3 : (X.set (K.lk s) v).getD 3 0 = X.getD 3 0 := by rw [getD_set, if_neg (by have := K.lk_4 s; omega)]
    refine ⟨hi.pc, fun h => ?_, fun h ht => ?_, hi.some⟩
    · rw [e3]; exact hi.old h
    · rw [hi.nx h ht, getD_set, if_neg]
      rintro ⟨e, _⟩
      have hT := (hi.old (by omega)).2 ht
      have hsm := hi.some (by omega)
      cases F with
      | nil => exact hsm (hT ▸ tp.fst_nil)
      | cons x F =>
        have hf : fst K.S p.tp = (x : Int) := hT ▸ tp.fst
        rw [hf] at e
        have hx := K.lk_inj e
        exact hH s hs (by rw [hx]; simp)
  · have e3 : (X.set i v).getD 3 0 = X.getD 3 0 := by rw [getD_set, if_neg (fun e => h3 e.1)]
    refine ⟨hi.pc, fun h => ?_, fun h ht => ?_, hi.some⟩
    · rw [e3]; exact hi.old h
    · rw [hi.nx h ht, getD_set, if_neg (fun e => hk _ e.1)]
  · refine ⟨hi.pc, fun h => ?_, fun h ht => ?_, hi.some⟩
    · have := hi.old h
      exact ⟨by omega, fun e => by omega⟩
    · have := hi.old (by omega)
      omega
theorem QInv.other {K : Cf} {H X X' : List Nat} {tag tag' : Nat} {q : QS} (hi : QInv K X tag q) (he : Eff K H X tag X' tag') (hH : q.sl ∉ H) : QInv K X' tag' q := by
  rcases he with ⟨rfl, rfl⟩ | ⟨v, s, hs, rfl, rfl⟩ | ⟨v, i, h3, hk, rfl, rfl⟩ | ⟨v, rfl, rfl⟩
  · exact hi
  · have e3 : (X.set (K.lk s) v).getD 3 0 = X.getD 3 0 := by rw [getD_set, if_neg (by have := K.lk_4 s; omega)]
    refine ⟨hi.pc, fun h => ?_, fun h => ?_⟩
    · rw [e3]; exact hi.old h
    · rw [getD_set, if_neg, hi.lk h]
      rintro ⟨e, _⟩
      exact hH (K.lk_inj e ▸ hs)
  · have e3 : (X.set i v).getD 3 0 = X.getD 3 0 := by rw [getD_set, if_neg (fun e => h3 e.1)]
    refine ⟨hi.pc, fun h => ?_, fun h => ?_⟩
    · rw [e3]; exact hi.old h
    · rw [getD_set, if_neg (fun e => hk _ e.1), hi.lk h]
  · refine ⟨hi.pc, fun h => ?_, fun h => ?_⟩
    · have := hi.old h
      exact ⟨by omega, fun e => by omega⟩
    · rw [getD_set, if_neg (by have := K.lk_4 q.sl; omega)]
      exact hi.lk h
theorem pop0_inv (K : Cf) (X : List Nat) (tag : Nat) : PInv K X tag ⟨-1, false, 0, 0, 0⟩ := ⟨by show 0 ≤ 2; omega, (fun h => by have : 1 ≤ 0 := h; omega), (fun h => by cases h), fun h => by have : 1 ≤ 0 := h; omega⟩
theorem push0_inv (K : Cf) (X : List Nat) (tag s : Nat) : QInv K X tag ⟨s, 0, 0⟩ := ⟨by show 0 ≤ 2; omega, (fun h => by have : 1 ≤ 0 := h; omega), fun h => by cases h⟩
theorem mkX_0 {K : Cf} {X : List Nat} {m : Mk} (h : m.pc = 0) : mkX K X m = ((popX K X m.p).1, if (popX K X m.p).2.pc = 3 then
        (if (popX K X m.p).2.em = true then { m with p := (popX K X m.p).2, full := true, pc := 4 } else { m with p := (popX K X m.p).2, pc := 1 })
      else { m with p := (popX K X m.p).2 }) := by unfold mkX; rw [if_pos h]
theorem mkX_1 {K : Cf} {X : List Nat} {m : Mk} (h : m.pc = 1) : mkX K X m = (X, { m with gen := genW (X.getD (K.hd m.slot) 0), pc := 2 }) := by unfold mkX; rw [if_neg (by omega), if_pos h]
theorem mkX_2 {K : Cf} {X : List Nat} {m : Mk} (h : m.pc = 2) : mkX K X m = (X.set (K.bd m.slot m.nx) (m.body.getD m.nx 0), { m with nx := m.nx + 1, pc := if m.nx + 1 = m.body.length then 3 else 2 }) := by unfold mkX; rw [if_neg (by omega), if_neg (by omega), if_pos h]
theorem mkX_3 {K : Cf} {X : List Nat} {m : Mk} (h : m.pc = 3) : mkX K X m = (X.set (K.hd m.slot) (madeW m.kind m.ar m.gen m.e), { m with sl := m.p.sl, pc := 4 }) := by unfold mkX; rw [if_neg (by omega), if_neg (by omega), if_neg (by omega), if_pos h]

/-- A Make alone, behind so many steps: the slot that it takes, the list that is left. -/
def AlAt (K : Cf) (tag s : Nat) (F : List Nat) (n : Nat) (X : List Nat) (m : Mk) : Prop :=
  (n ≤ 2 ∧ m.pc = 0 ∧ m.p.pc = n ∧ Top K X tag (s :: F) ∧ (1 ≤ n → X.getD 3 0 = m.p.tp) ∧ PInv K X tag m.p ∧ m.nx = 0) ∨
  (n = 3 ∧ m.pc = 1 ∧ m.p.sl = (s : Int) ∧ m.nx = 0 ∧ Top K X (tag + 1) F) ∨
  (4 ≤ n ∧ n < 4 + K.B ∧ m.pc = 2 ∧ m.nx = n - 4 ∧ m.p.sl = (s : Int) ∧ Top K X (tag + 1) F) ∨
  (n = 4 + K.B ∧ m.pc = 3 ∧ m.p.sl = (s : Int) ∧ Top K X (tag + 1) F) ∨
  (n = 5 + K.B ∧ m.pc = 4 ∧ m.sl = (s : Int) ∧ m.full = false ∧ Top K X (tag + 1) F)
theorem AlAt.step {K : Cf} (hK : K.Ok) {tag s n : Nat} {F X : List Nat} {m : Mk} (h : AlAt K tag s F n X m) (hf : m.Fit K) (hn : n < 5 + K.B) (ht : tag + 1 < 281474976710656) : AlAt K tag s F (n + 1) (mkX K X m).1 (mkX K X m).2 ∧ m.pc ≤ 3 ∧ ((mkX K X m).2.pc = 4 ↔ n = 4 + K.B) := by
  have hb3 := hK.b3
  rcases h with ⟨h1, h2, h3, h4, h5, h6, h7⟩ | ⟨h1, h2, h3, h4, h5⟩ | ⟨h1, h2, h3, h4, h5, h6⟩ | ⟨h1, h2, h3, h4⟩ | ⟨h1, _⟩
  · rw [mkX_0 h2]
    rcases popCases hK h4 h6 ht with ⟨a1, a2, a3, a4, a5⟩ | ⟨a1, _⟩ | ⟨s', F', a1, a2, a3, a4, ⟨v, a5⟩, a6⟩
    · simp only [if_neg (show ¬ (popX K X m.p).2.pc = 3 by omega)]
      rcases (show n = 0 ∨ n = 1 ∨ n = 2 by omega) with e | e | e
      · have ep := popX_0 (p := m.p) h4 (by omega)
        rw [ep] at a1 a2 a5 ⊢
        refine ⟨.inl ⟨by omega, h2, by show 1 = n + 1; omega, h4, fun _ => rfl, a5, h7⟩, by omega, ⟨fun h => ?_, fun h => by omega⟩⟩
        have : m.pc = 4 := h
        omega
      · have hT := h5 (by omega)
        have hfs : fst K.S m.p.tp = (s : Int) := hT ▸ h4.fst
        have ep := popX_1 (X := X) (p := m.p) (by omega) hfs
        rw [ep] at a1 a2 a5 ⊢
        refine ⟨.inl ⟨by omega, h2, by show 2 = n + 1; omega, h4, fun _ => hT, a5, h7⟩, by omega, ⟨fun h => ?_, fun h => by omega⟩⟩
        have : m.pc = 4 := h
        omega
      · have hT := h5 (by omega)
        have ep := popX_2 (p := m.p) (X := X) (K := K) (by omega) hT
        rw [ep] at a1
        have : 3 ≤ 2 := a1
        omega
    · cases a1
    · simp only [List.cons.injEq] at a1
      obtain ⟨rfl, rfl⟩ := a1
      have he := hf.em h2
      have a4' : ¬ (popX K X m.p).2.em = true := by rw [a4, he]; simp
      simp only [if_pos a2, if_neg a4']
      have e2 : n = 2 := by
        rcases (show n = 0 ∨ n = 1 ∨ n = 2 by omega) with e | e | e
        · have ep := popX_0 (p := m.p) h4 (by omega)
          rw [ep] at a2
          cases a2
        · have hT := h5 (by omega)
          have hfs : fst K.S m.p.tp = (s : Int) := hT ▸ h4.fst
          have ep := popX_1 (X := X) (p := m.p) (by omega) hfs
          rw [ep] at a2
          cases a2
        · exact e
      exact ⟨.inr (.inl ⟨by omega, rfl, a3, h7, a6⟩), by omega, ⟨(fun h => by cases h), fun h => by omega⟩⟩
  · rw [mkX_1 h2]
    exact ⟨.inr (.inr (.inl ⟨by omega, by omega, rfl, by show m.nx = _; omega, h3, h5⟩)), by omega, ⟨(fun h => by cases h), fun h => by omega⟩⟩
  · have hl := hf.ok.len
    have hnx := hf.ok.nx (by omega)
    rw [mkX_2 h3]
    have tp := h6.other (i := K.bd m.slot m.nx) (by have := K.bd_4 m.slot m.nx; omega) (fun t => K.bd_lk hnx) (m.body.getD m.nx 0)
    by_cases hd : m.nx + 1 = m.body.length
    · rw [if_pos hd]
      exact ⟨.inr (.inr (.inr (.inl ⟨by omega, rfl, h5, tp⟩))), by omega, ⟨(fun h => by cases h), fun h => by omega⟩⟩
    · rw [if_neg hd]
      exact ⟨.inr (.inr (.inl ⟨by omega, by omega, rfl, by show m.nx + 1 = _; omega, h5, tp⟩)), by omega, ⟨(fun h => by cases h), fun h => by omega⟩⟩
  · rw [mkX_3 h2]
    have tp := h4.other (i := K.hd m.slot) (by have := K.hd_4 m.slot; omega) (fun t => K.hd_lk _ _) (madeW m.kind m.ar m.gen m.e)
    exact ⟨.inr (.inr (.inr (.inr ⟨by omega, rfl, h3, (hf.sl (by omega)).2, tp⟩))), by omega, ⟨fun _ => h1, fun _ => rfl⟩⟩
  · omega
end Go.Proofs.YtjbjijkkmlehgaaDoor
/- The law of one alone that makes all slots something, walked. -/
namespace Go.Proofs.YtjbjijkkmlehgaaDoor
open Go.RowKit
open Mm (IsMem MS touched Only IsWords zeroMS)
open Hh (WT)

/-- A Make beside a law's own blocks. -/
structure AlW (w wr : World) (K : Cf) (M G P : Nat) (X : List Nat) (T : Int) (m : Mk) : Prop where
  ds : Ds w wr K M G X T
  ma : MkIn wr K P m
  fit : m.Fit K
  ap : P ≠ M ∧ P ≠ G ∧ m.bb ≠ P ∧ m.bb ≠ M ∧ m.bb ≠ G
  hi : w.heap.size + 1 ≤ P
theorem AlW.step {w wr : World} {K : Cf} (hK : K.Ok) {M G P : Nat} {X : List Nat} {T : Int} {m : Mk} (h : AlW w wr K M G P X T m) (hl : X.length = K.N) (ht : 0 ≤ T ∧ T + 1 < 4611686018427387904) (h3 : m.pc ≤ 3) :
    Calls Tryd.prog 20 #[.pointer (some ⟨P, 0, none⟩), .pointer (some ⟨M, 0, none⟩)] wr fun r w' => r = .returned (.bool (decide ((mkX K X m).2.pc = 4))) ∧ AlW w w' K M G P (mkX K X m).1 (T + 1) (mkX K X m).2 := by
  have ap := h.ap
  have hi := h.hi
  have hM := h.ds.hM
  have hG := h.ds.hG
  refine (mk_step hK h.ds.mem h.ds.wt hl ht (by omega) h.ma h.fit.ok h3 (by omega) (by omega)).mono fun r w' ⟨h1, h2, h4, h5, h6⟩ => ⟨h1, ?_⟩
  exact ⟨h.ds.chg h6 hi h2 h5, h4, mkX_fit h.fit h3 (fun i => h.ds.mem.fits i), by rw [(mkX_body K X m).1]; exact ap, hi⟩
theorem AlW.below {w wr w1 : World} {K : Cf} {M G P : Nat} {X : List Nat} {T : Int} {m : Mk} (h : AlW w wr K M G P X T m) (b : Below wr.heap.size wr w1) : AlW w w1 K M G P X T m := ⟨h.ds.below b, h.ma.below b, h.fit, h.ap, h.hi⟩
/-- A Make that is new. -/
theorem AlW.new {w wr w' : World} {K : Cf} (hK : K.Ok) {M G P R : Nat} {X : List Nat} {T : Int} {c : Array Value} {kind ar ep : Nat} {Y : List Nat} (hd : Ds w wr K M G X T) (nb : NewBlk wr w' P c 60) (ha : MkAt c K (mk0 kind ar ep R K.B Y)) (hr : IsWords w' R (fillW K.B Y)) (hR : wr.heap.size ≤ R) (hRP : R ≠ P) (hk : kind = 1 ∨ kind = 2) (hA : ar < 16) (he : ep < 18446744073709551616) (hY : ∀ i, Y.getD i 0 < 18446744073709551616) : AlW w w' K M G P X T (mk0 kind ar ep R K.B Y) := by
  have h1 := hd.mem.lt
  have h2 := nb.new
  have h3 := hd.lt
  exact ⟨hd.below nb.bel, ⟨c, nb.blk, ha, hr⟩, mk0_fit hK hk hA he hY, ⟨by omega, by omega, hRP, by show R ≠ M; omega, by show R ≠ G; omega⟩, by omega⟩

set_option maxRecDepth 100000 in
set_option maxHeartbeats 8000000 in
theorem alone_law (s a c d g k : Int) (ep : Nat) (hep : ep < 18446744073709551616) (y : Int) (hy : 0 ≤ y ∧ y ≤ 255) (w : World) (hw : WT w) :
    Calls Tryd.prog 4 #[.agg (cs s a c d g k), .int .u64 (ep : Nat), .int .u8 y] w fun e w' => e = .returned (.bool true) ∧ Below w.heap.size w w' := by
  have cf := Fit_any s a c d g k
  have bel := alloc_below w (.cells #[.int .i64 s, .int .i64 a, .int .i64 c, .int .i64 d, .int .i64 g, .int .i64 k] 23)
  have hh := cfg_new w s a c d g k
  have hW0 := hw.lt
  replace hw := hw.below bel
  go_enter Tryd.func4, Tryd.ntmps4
  go_upto_region 1 with fail
  generalize w.alloc (.cells #[.int .i64 s, .int .i64 a, .int .i64 c, .int .i64 d, .int .i64 g, .int .i64 k] 23) = w1 at *
  obtain ⟨l0, l1, l2, l3, l4, l5⟩ := hh.cells
  go_upto_region 2 with (first
    | (go_at_call 8; refine (cf _).mono ?_; rintro e w2 ⟨⟨s', a', c', d', g', k', rfl, hs, ha, hc, hd, hg, hk⟩, b⟩; replace bel := seq_below bel b; replace hh := hh.below b; replace hw := hw.below b; obtain ⟨l0, l1, l2, l3, l4, l5⟩ := hh.cells; have y0 := hh.free 0; have y1 := hh.free 1; have y2 := hh.free 2; have y3 := hh.free 3; have y4 := hh.free 4; have y5 := hh.free 5))
  have h3 := cfg_stored6 hh s' a' c' d' g' k'
  have bel3 := below_stored6 bel (Nat.le_refl w.heap.size) (.int .i64 s') (.int .i64 a') (.int .i64 c') (.int .i64 d') (.int .i64 g') (.int .i64 k')
  have hw0 : 0 < w.heap.size := hW0
  have hw3 := ((((((hw.set (o := 0) hw0 (.int .i64 s')).set (o := 1) hw0 (.int .i64 a')).set (o := 2) hw0 (.int .i64 c')).set (o := 3) hw0 (.int .i64 d')).set (o := 4) hw0 (.int .i64 g')).set (o := 5) hw0 (.int .i64 k'))
  clear l0 l1 l2 l3 l4 l5 y0 y1 y2 y3 y4 y5 hh bel cf hw
  generalize ((((((w2.setCell ⟨w.heap.size, 0, none⟩ (.int .i64 s')).setCell ⟨w.heap.size, 1, none⟩ (.int .i64 a')).setCell ⟨w.heap.size, 2, none⟩ (.int .i64 c')).setCell ⟨w.heap.size, 3, none⟩ (.int .i64 d')).setCell ⟨w.heap.size, 4, none⟩ (.int .i64 g')).setCell ⟨w.heap.size, 5, none⟩ (.int .i64 k')) = w3 at *
  have hr : rightB s' a' c' d' g' k' = true := rightB_iff.2 (by omega)
  clear hc hd hg hk
  obtain ⟨K, hK, rfl, rfl, rfl, rfl, rfl, rfl⟩ := Cf.of_right hr
  have c9 := memory_yes hK.r hK.b hK.b8 hK.c8 hK.d16 hK.s64 hK.s1 hK.d1
  rw [show zeroMS (memX K.C K.D K.B (nW K.C K.D K.B K.S) (K.S - 1)) = memK0 K from rfl] at c9
  have c18 := room_any K.S K.a K.C K.D K.g K.k
  rw [hK.b] at c18
  have hb3 := hK.b3
  have hb8 := hK.b8
  have hh := h3
  have bel := bel3
  have hw := hw3
  clear h3 bel3 hr hw3
  have hS1 := hK.s1
  obtain ⟨l0, l1, l2, l3, l4, l5⟩ := hh.cells
  obtain ⟨ar, har, har2, hare⟩ : ∃ ar : Nat, ar ≤ 4 ∧ (ar : Int) ≤ K.a ∧ y.tmod (K.a + 1) = (ar : Int) := by
    have e : y.tmod (K.a + 1) = y % (K.a + 1) := Int.tmod_eq_emod_of_nonneg hy.1
    have h1 : 0 ≤ y % (K.a + 1) := Int.emod_nonneg _ (by omega)
    have h2 : y % (K.a + 1) < K.a + 1 := Int.emod_lt_of_pos _ (by omega)
    exact ⟨(y % (K.a + 1)).toNat, by omega, by omega, by rw [e]; omega⟩
  have hmay : mayB K.a 1 ar = true := by simp [mayB, har2]
  have c19 : ∀ w, Calls Tryd.prog 19 #[.agg K.cs, .int .i64 1, .int .i64 (ar : Nat), .int .u64 (ep : Nat), .slice none 0 0] w fun e w' => ∃ P R c, e = .returned (.pointer (some ⟨P, 0, none⟩)) ∧ NewBlk w w' P c 60 ∧ MkAt c K (mk0 1 ar ep R K.B []) ∧ IsWords w' R (fillW K.B []) ∧ w.heap.size ≤ R ∧ R ≠ P := fun w => newMake_yes (w := w) (ad := none) (n := 0) (cap := 0) (Y := []) hK 1 ar ep hmay (fun i hi => by simp at hi) rfl (by omega)
  have c19r : ∀ w, Calls Tryd.prog 19 #[.agg K.cs, .int .i64 2, .int .i64 0, .int .u64 (ep : Nat), .slice none 0 0] w fun e w' => ∃ P R c, e = .returned (.pointer (some ⟨P, 0, none⟩)) ∧ NewBlk w w' P c 60 ∧ MkAt c K (mk0 2 0 ep R K.B []) ∧ IsWords w' R (fillW K.B []) ∧ w.heap.size ≤ R ∧ R ≠ P := fun w => newMake_yes (w := w) (ad := none) (n := 0) (cap := 0) (Y := []) hK 2 0 ep (by rfl) (fun i hi => by simp at hi) rfl (by omega)
  have q1 : IntKind.i64.wrap (K.a + 1) = K.a + 1 := by rw [IntKind.wrap_i64]; omega
  have q2 : ¬ K.a + 1 = 0 := by omega
  have q3 : IntKind.i64.wrap y = y := by rw [IntKind.wrap_i64]; omega
  have q5 : IntKind.i64.wrap (4 + (K.B : Int)) = 4 + (K.B : Int) := by rw [IntKind.wrap_i64]; omega
  have q6 : IntKind.i64.wrap (4 + (K.B : Int) + 1) = 5 + (K.B : Int) := by rw [IntKind.wrap_i64]; omega
  unfold Cf.cs at *
  go_upto_region 6 with (first
    | (go_at_call 9; refine (c9 _).mono ?_; rintro e w4 ⟨M, G, rfl, hm, hM, hG, hb⟩; have hlt := hh.lt; replace hh := hh.below hb; replace bel := seq_below bel hb; replace hw := hw.below hb; clear hb l0 l1 l2 l3 l4 l5; obtain ⟨l0, l1, l2, l3, l4, l5⟩ := hh.cells)
    | (go_at_call 18; refine (c18 _).mono ?_; rintro e w5 ⟨rfl, hb⟩; replace hh := hh.below hb; replace bel := seq_below bel hb; replace hw := hw.below hb; replace hm := hm.below hb; clear hb l0 l1 l2 l3 l4 l5))
  have ds : Ds w w5 K M G (memK0 K).X 0 := ⟨⟨_, hm, rfl, rfl⟩, hh, bel, hw, by omega, by omega⟩
  clear hm hh bel hw hM hG hlt c9 c18 q5 q6
  have HT : Hid (Top K (memK0 K).X 0 (List.range' 0 K.S)) := top_new hK
  have hst : ∃ st : Int, 5 + (K.B : Int) = st := ⟨_, rfl⟩
  obtain ⟨st, hst⟩ := hst
  rw [hst]
  have hS12 : K.S ≤ 12 := by omega
  have cds : ∀ wr X T, Ds w wr K M G X T → wr.cell? ⟨w.heap.size, 0, none⟩ = some (.int .i64 (K.S : Nat)) ∧ wr.cell? ⟨w.heap.size, 1, none⟩ = some (.int .i64 K.a) ∧ wr.cell? ⟨w.heap.size, 2, none⟩ = some (.int .i64 (K.C : Nat)) ∧ wr.cell? ⟨w.heap.size, 3, none⟩ = some (.int .i64 (K.D : Nat)) ∧ wr.cell? ⟨w.heap.size, 4, none⟩ = some (.int .i64 K.g) ∧ wr.cell? ⟨w.heap.size, 5, none⟩ = some (.int .i64 K.k) := fun wr X T x => x.cfg.cells
  replace cds : Hid _ := cds
  go_wp2
  go_loopw [9] (fun i wr => ∃ (n tag : Nat) (X : List Nat) (T : Int), n ≤ K.S ∧ i = .int .i64 n ∧ tag ≤ n ∧ (0 ≤ T ∧ T ≤ 13 * n) ∧ Hid (Top K X tag (List.range' n (K.S - n))) ∧ Ds w wr K M G X T) (fun i _ => K.S - (intOf i).toNat)
  case atStart => exact ⟨0, 0, _, 0, Nat.zero_le _, rfl, Nat.le_refl _, by omega, by rw [Nat.sub_zero]; exact HT, ds⟩
  case round =>
    clear ds HT
    obtain ⟨n, tag, X, T, hn, rfl, htag, hT, HT, ds⟩ := hrel
    obtain ⟨l0, l1, l2, l3, l4, l5⟩ := cds.out _ _ _ ds
    by_cases hnS : n < K.S
    · have hnS' : (n : Int) < (K.S : Int) := by omega
      obtain ⟨F, hF⟩ : ∃ F, List.range' n (K.S - n) = n :: F ∧ F = List.range' (n + 1) (K.S - (n + 1)) := by
        refine ⟨_, ?_, rfl⟩
        rw [show K.S - n = (K.S - (n + 1)) + 1 by omega, List.range'_succ]
      go_upto_region 9 with fail
      clear l0 l1 l2 l3 l4 l5
      replace ds := ds.drew
      go_region_held (fun wr => wr.cell? ⟨w.heap.size, 0, none⟩ = some (.int .i64 (K.S : Nat)) ∧ wr.cell? ⟨w.heap.size, 1, none⟩ = some (.int .i64 K.a) ∧ wr.cell? ⟨w.heap.size, 2, none⟩ = some (.int .i64 (K.C : Nat)) ∧ wr.cell? ⟨w.heap.size, 3, none⟩ = some (.int .i64 (K.D : Nat)) ∧ wr.cell? ⟨w.heap.size, 4, none⟩ = some (.int .i64 K.g) ∧ wr.cell? ⟨w.heap.size, 5, none⟩ = some (.int .i64 K.k)) (with_reducible exact cds.out _ _ _ ds) (first
        | (go_at_call 19; with_reducible refine (c19 _).mono ?_; rintro e w6 ⟨P, R, cP, rfl, nP, aP, rP, hR, hRP⟩; have al := AlW.new hK ds nP aP rP hR hRP (.inl rfl) (by omega) hep (fun i => by simp); clear ds; have ds := al.ds))
      have HA : Hid (AlAt K tag n F 0 X (mk0 1 ar ep R K.B [])) := .inl ⟨by omega, rfl, rfl, hF.1 ▸ HT.out, (fun h => by omega), pop0_inv K X tag, rfl⟩
      clear ds nP aP rP hR hRP HT
      generalize mk0 1 ar ep R K.B [] = m0 at *
      replace hF : Hid _ := hF.2
      go_wp2
      go_loopw [11] (fun i wr => ∃ (j : Nat) (X : List Nat) (T' : Int) (m : Mk), j ≤ 4 + K.B ∧ i = .int .i64 (j + 1 : Nat) ∧ (0 ≤ T' ∧ T' ≤ T + j) ∧ Hid (AlAt K tag n F j X m) ∧ AlW w wr K M G P X T' m) (fun i _ => 20 - (intOf i).toNat)
      case atStart => exact ⟨0, X, T, m0, by omega, rfl, by omega, HA, al⟩
      case round =>
        clear al HA
        obtain ⟨j, X1, T1, m, hj, rfl, hT1, HA, al⟩ := hrel
        have hst1 := HA.out.step hK al.fit (by omega) (by omega)
        have hlen : X1.length = K.N := by
          rcases HA.out with h | h | h | h | h
          · exact h.2.2.2.1.len
          · exact h.2.2.2.2.len
          · exact h.2.2.2.2.2.len
          · exact h.2.2.2.len
          · exact h.2.2.2.2.len
        have c20 := al.step hK hlen (by omega) hst1.2.1
        have hj40 : ((j + 1 : Nat) : Int) < 40 := by omega
        have ed : decide ((mkX K X1 m).2.pc = 4) = decide (j = 4 + K.B) := decide_eq_decide.2 hst1.2.2
        rw [ed] at c20
        have HA2 : Hid _ := hst1.1
        clear hst1 hlen HA al ed
        push_cast at hj40
        push_cast
        by_cases hje : j = 4 + K.B
        · rw [decide_eq_true hje] at c20
          have hje2 : Hid ((j : Int) + 1 = st) := by unfold Hid; omega
          replace hje : Hid (j = 4 + K.B) := hje
          clear hst
          go_upto_region 13 with (go_at_call 20; refine c20.mono ?_; rintro e w7 ⟨rfl, al⟩)
          clear c20
          rcases HA2.out with h | h | h | h | ⟨h1, h2, h3, h4, h5⟩
          · have := hje.out; omega
          · have := hje.out; omega
          · have := hje.out; omega
          · have := hje.out; omega
          have k0 := al.ma.cells.1
          have k1 := al.ma.cells.2
          rw [h3] at k0
          rw [h4] at k1
          have HT : Hid (Top K (mkX K X1 m).1 (tag + 1) (List.range' (n + 1) (K.S - (n + 1)))) := by rw [← hF.out]; exact h5
          have ds2 := al.ds
          have hb8' : j ≤ 12 := by have := hje.out; omega
          clear HA2 h1 h2 h3 h4 h5 al hj40 hj
          generalize (mkX K X1 m).1 = X2 at *
          have hne : ((j : Int) + 1 != st) = false := by have := hje2.out; simp [this]
          go_wp2
          go_roundw
          case rel => exact ⟨n + 1, tag + 1, X2, _, by omega, by go_num, by omega, by omega, HT, ds2⟩
          case measure => simp [intOf]; omega
        · rw [decide_eq_false hje] at c20
          go_wp2_with (go_at_call 20; refine c20.mono ?_; rintro e w7 ⟨rfl, al⟩)
          go_roundw
          case rel => exact ⟨j + 1, _, _, _, by omega, by go_num, by omega, HA2, al⟩
          case measure => simp [intOf]; omega
    · have hnS' : ¬ (n : Int) < (K.S : Int) := by omega
      have hnn : n = K.S := by omega
      have tp : Top K X tag [] := by
        have := HT.out
        rw [hnn, Nat.sub_self] at this
        exact this
      have hlen := tp.len
      have e1 : ∀ R, (mkX K X (mk0 2 0 ep R K.B [])).2.pc = 4 ∧ (mkX K X (mk0 2 0 ep R K.B [])).2.full = true ∧ (mkX K X (mk0 2 0 ep R K.B [])).2.sl = -1 := fun R => by
        rw [mkX_0 rfl]
        have ep2 := popX_0n (p := (mk0 2 0 ep R K.B []).p) tp rfl
        rw [ep2]
        exact ⟨rfl, rfl, rfl⟩
      replace e1 : Hid _ := e1
      have hT2 : 0 ≤ T ∧ T + 1 < 4611686018427387904 := by omega
      clear HT tp hnS hnn hn hT
      have hsz := ds.lt
      go_wp2_with (first
        | (go_at_call 19; refine (c19r _).mono ?_; rintro e w6 ⟨P, R, cP, rfl, nP, aP, rP, hR, hRP⟩; have al := AlW.new hK ds nP aP rP hR hRP (.inr rfl) (by omega) hep (fun i => by simp); obtain ⟨x1, x2, x3⟩ := e1.out R; clear e1 ds nP aP rP hR hRP l0 l1 l2 l3 l4 l5)
        | (go_at_call 20; have c20 := al.step hK hlen hT2 (by show 0 ≤ 3; omega); rw [decide_eq_true x1] at c20; refine c20.mono ?_; rintro e w7 ⟨rfl, al2⟩; have k0 := al2.ma.cells.1; have k1 := al2.ma.cells.2; rw [x3] at k0; rw [x2] at k1; have wt2 := al2.ds.wt; have bel2 := al2.ds.bel; clear al al2 c20 x1 x2 x3)
        | (go_at_call 10; refine (awake_any _ wt2).mono ?_; rintro e w8 ⟨rfl, hb⟩; replace bel2 := seq_below bel2 hb))
      go_ret
      exact ⟨rfl, bel2⟩
end Go.Proofs.YtjbjijkkmlehgaaDoor
/- A Free alone, step by step: no program in sight. -/
namespace Go.Proofs.YtjbjijkkmlehgaaDoor
open Go.RowKit
open Mm (MS touched)
open Tg (movedW)
open Hh (okW wordOf)
set_option linter.unusedVariables false

theorem frX_0 {K : Cf} {X : List Nat} {f : Fr} (h : f.pc = 0) : frX K X f = (X, { f with fd := fdW (X.getD (K.hd f.q.sl) 0) K.g, pc := if limboW (X.getD (K.hd f.q.sl) 0) = true then 1 else 3 }) := by unfold frX; rw [if_pos h]
theorem frX_1 {K : Cf} {X : List Nat} {f : Fr} (h : f.pc = 1) : frX K X f = (X.set (K.hd f.q.sl) f.fd, if kdW f.fd = 4 then { f with gone := true, pc := 3 } else { f with pc := 2 }) := by unfold frX; rw [if_neg (by omega), if_pos h]
theorem frX_2 {K : Cf} {X : List Nat} {f : Fr} (h : f.pc = 2) : frX K X f = ((pushX K X f.q).1, if (pushX K X f.q).2.pc = 3 then { f with q := (pushX K X f.q).2, back := true, pc := 3 } else { f with q := (pushX K X f.q).2 }) := by unfold frX; rw [if_neg (by omega), if_neg (by omega), if_pos h]

/-- A Free alone under way: the word that the header had, the list. -/
def FlAt (K : Cf) (tag W s : Nat) (F : List Nat) (X : List Nat) (f : Fr) : Prop :=
  f.q.sl = s ∧ f.back = false ∧ f.gone = false ∧ Top K X tag F ∧ QInv K X tag f.q ∧
  ((f.pc = 0 ∧ f.q.pc = 0 ∧ X.getD (K.hd s) 0 = W) ∨
   (f.pc = 1 ∧ f.q.pc = 0 ∧ limboW W = true ∧ f.fd = fdW W K.g) ∨
   (f.pc = 2 ∧ f.q.pc ≤ 2 ∧ (1 ≤ f.q.pc → X.getD 3 0 = f.q.tp) ∧ limboW W = true ∧ kdW (fdW W K.g) ≠ 4 ∧ X.getD (K.hd s) 0 = fdW W K.g))
/-- How many steps are left, at most. -/
def Fr.left (f : Fr) : Nat := if f.pc = 0 then 5 else if f.pc = 1 then 4 else 3 - f.q.pc
/-- What it comes to. -/
def FlEnd (K : Cf) (tag W s : Nat) (F : List Nat) (X : List Nat) (f : Fr) : Prop :=
  (limboW W = false ∧ f.back = false ∧ f.gone = false ∧ X.getD (K.hd s) 0 = W ∧ Top K X tag F) ∨
  (limboW W = true ∧ kdW (fdW W K.g) = 4 ∧ f.back = false ∧ f.gone = true ∧ X.getD (K.hd s) 0 = fdW W K.g ∧ Top K X tag F) ∨
  (limboW W = true ∧ kdW (fdW W K.g) ≠ 4 ∧ f.back = true ∧ f.gone = false ∧ X.getD (K.hd s) 0 = fdW W K.g ∧ Top K X (tag + 1) (s :: F))
theorem FlAt.step {K : Cf} (hK : K.Ok) {tag W s : Nat} {F X : List Nat} {f : Fr} (h : FlAt K tag W s F X f) (hs : s ∉ F) (hsS : s < K.S) (ht : tag + 1 < 281474976710656) :
    f.pc ≤ 2 ∧ (((frX K X f).2.pc = 3 ∧ FlEnd K tag W s F (frX K X f).1 (frX K X f).2) ∨ ((frX K X f).2.pc ≠ 3 ∧ FlAt K tag W s F (frX K X f).1 (frX K X f).2 ∧ (frX K X f).2.left < f.left)) := by
  have hN := K.hd_lt hsS
  have h4 := K.hd_4 s
  obtain ⟨h1, h2, h3, h5, h6, h7⟩ := h
  rcases h7 with ⟨a1, a2, a3⟩ | ⟨a1, a2, a3, a4⟩ | ⟨a1, a2, a3, a4, a5, a6⟩
  · refine ⟨by omega, ?_⟩
    rw [frX_0 a1, h1, a3]
    by_cases hl : limboW W = true
    · right
      rw [if_pos hl]
      refine ⟨by show 1 ≠ 3; omega, ⟨h1, h2, h3, h5, h6, .inr (.inl ⟨rfl, a2, hl, rfl⟩)⟩, ?_⟩
      unfold Fr.left
      rw [if_pos a1, if_neg (by show ¬ 1 = 0; omega), if_pos rfl]
      omega
    · left
      rw [if_neg hl]
      exact ⟨rfl, .inl ⟨by simpa using hl, h2, h3, a3, h5⟩⟩
  · refine ⟨by omega, ?_⟩
    rw [frX_1 a1, h1, a4]
    have tp := h5.other (i := K.hd s) (by omega) (fun t => K.hd_lk _ _) (fdW W K.g)
    have e1 : (X.set (K.hd s) (fdW W K.g)).getD (K.hd s) 0 = fdW W K.g := by rw [getD_set, if_pos ⟨rfl, by rw [h5.len]; exact hN⟩]
    by_cases hk : kdW (fdW W K.g) = 4
    · left
      rw [if_pos hk]
      exact ⟨rfl, .inr (.inl ⟨a3, hk, h2, rfl, e1, tp⟩)⟩
    · right
      rw [if_neg hk]
      refine ⟨by show 2 ≠ 3; omega, ⟨h1, h2, h3, tp, ?_, .inr (.inr ⟨rfl, by show f.q.pc ≤ 2; omega, (fun h => by have : 1 ≤ f.q.pc := h; omega), a3, hk, e1⟩)⟩, ?_⟩
      · exact h6.other (H := []) (.inr (.inr (.inl ⟨_, _, by omega, fun t => K.hd_lk _ _, rfl, rfl⟩))) (by simp)
      · have e0 : f.left = 4 := by unfold Fr.left; rw [if_neg (by omega), if_pos a1]
        rw [e0]
        unfold Fr.left
        rw [if_neg (by show ¬ 2 = 0; omega), if_neg (by show ¬ 2 = 1; omega)]
        omega
  · refine ⟨by omega, ?_⟩
    rw [frX_2 a1]
    have hl0 : f.left = 3 - f.q.pc := by unfold Fr.left; rw [if_neg (by omega), if_neg (by omega)]
    have hh3 : K.hd s ≠ 3 := by omega
    rcases pushCases hK h5 h6 (by rw [h1]; exact hs) (by rw [h1]; exact hsS) ht with ⟨b1, b2, b3, b4, b5⟩ | ⟨b1, ⟨v, b2⟩, b3⟩
    · right
      simp only [if_neg (show ¬ (pushX K X f.q).2.pc = 3 by omega)]
      have e1 : (pushX K X f.q).1.getD (K.hd s) 0 = X.getD (K.hd s) 0 := by
        rcases b5 with e | ⟨v, e⟩
        · rw [e]
        · rw [e, getD_set, if_neg (fun h => K.hd_lk s f.q.sl h.1.symm)]
      rcases (show f.q.pc = 0 ∨ f.q.pc = 1 ∨ f.q.pc = 2 by omega) with e | e | e
      · have ep := pushX_0 (K := K) (X := X) e
        rw [ep] at b1 b2 b3 b4 e1 ⊢
        refine ⟨by show f.pc ≠ 3; omega, ⟨h1, h2, h3, b4, b3, .inr (.inr ⟨a1, by show 1 ≤ 2; omega, fun _ => rfl, a4, a5, a6⟩)⟩, ?_⟩
        rw [hl0]
        unfold Fr.left
        rw [if_neg (by show ¬ f.pc = 0; omega), if_neg (by show ¬ f.pc = 1; omega)]
        show 3 - 1 < 3 - f.q.pc
        omega
      · have ep := pushX_1 (K := K) (X := X) e
        have hT := a3 (by omega)
        rw [ep] at b1 b2 b3 b4 e1 ⊢
        refine ⟨by show f.pc ≠ 3; omega, ⟨h1, h2, h3, b4, b3, .inr (.inr ⟨a1, by show 2 ≤ 2; omega, fun _ => ?_, a4, a5, e1.trans a6⟩)⟩, ?_⟩
        · show (X.set (K.lk f.q.sl) _).getD 3 0 = f.q.tp
          rw [getD_set, if_neg (by have := K.lk_4 f.q.sl; omega)]
          exact hT
        · rw [hl0]
          unfold Fr.left
          rw [if_neg (by show ¬ f.pc = 0; omega), if_neg (by show ¬ f.pc = 1; omega)]
          show 3 - 2 < 3 - f.q.pc
          omega
      · have ep := pushX_2 (K := K) (X := X) e (a3 (by omega))
        rw [ep] at b1
        have : 3 ≤ 2 := b1
        omega
    · left
      rw [if_pos b1]
      refine ⟨rfl, .inr (.inr ⟨a4, a5, rfl, h3, ?_, by rw [h1] at b3; exact b3⟩)⟩
      show (pushX K X f.q).1.getD (K.hd s) 0 = _
      rw [b2, getD_set, if_neg (by omega)]
      exact a6

/-- Beside a law's own blocks. -/
structure FlW (w wr : World) (K : Cf) (M G Q : Nat) (X : List Nat) (T : Int) (f : Fr) : Prop where
  ds : Ds w wr K M G X T
  fr : FrIn wr K Q f
  ok : f.Ok K
  ap : Q ≠ M ∧ Q ≠ G
  hi : w.heap.size + 2 ≤ Q ∧ w.heap.size + 2 ≤ M ∧ w.heap.size + 2 ≤ G
theorem FlW.step {w wr : World} {K : Cf} (hK : K.Ok) {M G Q : Nat} {X : List Nat} {T : Int} {f : Fr} (h : FlW w wr K M G Q X T f) (hl : X.length = K.N) (ht : 0 ≤ T ∧ T + 1 < 4611686018427387904) (h2 : f.pc ≤ 2) :
    Calls Tryd.prog 26 #[.pointer (some ⟨Q, 0, none⟩), .pointer (some ⟨M, 0, none⟩)] wr fun r w' => r = .returned (.bool (decide ((frX K X f).2.pc = 3))) ∧ FlW w w' K M G Q (frX K X f).1 (T + 1) (frX K X f).2 ∧ Chg [Q, M, G] wr w' := by
  have ap := h.ap
  have hi := h.hi
  exact (fr_step hK h.ds.mem h.ds.wt hl ht (by omega) h.fr h.ok h2 (by omega)).mono fun r w' ⟨h1, h3, h4, h5, h6⟩ => ⟨h1, ⟨h.ds.chg h6 (by omega) h3 h5, h4, frX_ok h.ok h2 (fun i => h.ds.mem.fits i), ap, hi⟩, h6⟩
theorem FlW.below {w wr w1 : World} {K : Cf} {M G Q : Nat} {X : List Nat} {T : Int} {f : Fr} (h : FlW w wr K M G Q X T f) (b : Below wr.heap.size wr w1) : FlW w w1 K M G Q X T f := ⟨h.ds.below b, h.fr.below b, h.ok, h.ap, h.hi⟩
end Go.Proofs.YtjbjijkkmlehgaaDoor
/- Makers, whatever they make and free, in whatever order: no program in sight. -/
namespace Go.Proofs.YtjbjijkkmlehgaaDoor
open Mm (MS touched)
open Hh (okW wordOf Hr)
set_option linter.unusedVariables false

/-- A slot's header is that of a free slot of the generation that it was made something so often. -/
def FreeH (K : Cf) (X md : List Nat) (s : Nat) : Prop := X.getD (K.hd s) 0 = wordOf 0 0 (false : Bool).toNat 0 (md.getD s 0) 0 ∧ (md.getD s 0 : Int) < K.g
/-- A slot's header is of such a kind, of the generation before. -/
def LiveH (K : Cf) (X md : List Nat) (P : Nat → Prop) (s : Nat) : Prop := ∃ k m a, P k ∧ Hr k m a (md.getD s 0 - 1) 0 ∧ X.getD (K.hd s) 0 = wordOf k m (false : Bool).toNat a (md.getD s 0 - 1) 0 ∧ 1 ≤ md.getD s 0 ∧ (md.getD s 0 : Int) ≤ K.g
/-- What a maker is about. -/
inductive Ph where
  | idle
  | mk (m : Mk)
  | fr (f : Fr)
def Ph.held : Ph → List Nat
  | .idle => []
  | .mk m => if m.pc = 0 then [] else [m.slot]
  | .fr f => [f.q.sl]
structure Mr where
  has : List Nat
  ph : Ph
def Mr.own (r : Mr) : List Nat := r.has ++ r.ph.held
/-- What a Make under way knows. -/
structure MkOk (K : Cf) (X : List Nat) (tag : Nat) (md : List Nat) (m : Mk) : Prop where
  fit : m.Fit K
  pc : m.pc ≤ 3
  p0 : m.pc = 0 → PInv K X tag m.p
  nx0 : m.pc ≤ 1 → m.nx = 0
  free : 1 ≤ m.pc → FreeH K X md m.slot
  gen : 2 ≤ m.pc → m.gen = md.getD m.slot 0
  body : 2 ≤ m.pc → ∀ j, j < m.nx → j < K.B → X.getD (K.bd m.slot j) 0 = m.body.getD j 0
  nx2 : m.pc = 2 → m.nx < K.B
  nx3 : m.pc = 3 → m.nx = K.B
/-- What a Free under way knows. -/
structure FrOk (K : Cf) (X : List Nat) (tag : Nat) (md : List Nat) (f : Fr) : Prop where
  ok : f.Ok K
  bg : f.back = false ∧ f.gone = false
  pc : f.pc ≤ 2
  q : QInv K X tag f.q
  lim : f.pc ≤ 1 → LiveH K X md (fun k => k = 3) f.q.sl
  fd : f.pc = 1 → f.fd = fdW (X.getD (K.hd f.q.sl) 0) K.g
  free : f.pc = 2 → FreeH K X md f.q.sl
  q0 : f.pc ≤ 1 → f.q.pc = 0
def PhOk (K : Cf) (X : List Nat) (tag : Nat) (md : List Nat) : Ph → Prop
  | .idle => True
  | .mk m => MkOk K X tag md m
  | .fr f => FrOk K X tag md f
structure MrOk (K : Cf) (X : List Nat) (tag : Nat) (md : List Nat) (r : Mr) : Prop where
  has : ∀ s ∈ r.has, LiveH K X md (fun k => k = 1 ∨ k = 2) s
  nd : r.own.Nodup
  lt : ∀ s ∈ r.own, s < K.S
  ph : PhOk K X tag md r.ph
/-- What one maker's step does to what others know: H: what is its own. -/
structure Ef (K : Cf) (H X md : List Nat) (tag : Nat) (X' md' : List Nat) (tag' : Nat) : Prop where
  eff : Eff K H X tag X' tag'
  hd : ∀ s, s ∉ H → X'.getD (K.hd s) 0 = X.getD (K.hd s) 0
  bd : ∀ s j, s ∉ H → j < K.B → X'.getD (K.bd s j) 0 = X.getD (K.bd s j) 0
  me : ∀ s, s ∉ H → md'.getD s 0 = md.getD s 0
  x2 : X'.getD 2 0 = X.getD 2 0
  ml : md'.length = md.length

theorem FreeH.other {K : Cf} {H X md X' md' : List Nat} {tag tag' s : Nat} (h : FreeH K X md s) (e : Ef K H X md tag X' md' tag') (hs : s ∉ H) : FreeH K X' md' s := by
  unfold FreeH at h ⊢
  rw [e.hd s hs, e.me s hs]; exact h
theorem LiveH.other {K : Cf} {H X md X' md' : List Nat} {P : Nat → Prop} {tag tag' s : Nat} (h : LiveH K X md P s) (e : Ef K H X md tag X' md' tag') (hs : s ∉ H) : LiveH K X' md' P s := by
  unfold LiveH at h ⊢
  rw [e.hd s hs, e.me s hs]; exact h
theorem MrOk.other {K : Cf} {H X md X' md' F : List Nat} {tag tag' : Nat} {r : Mr} (tp : Top K X tag F) (h : MrOk K X tag md r) (e : Ef K H X md tag X' md' tag') (hF : ∀ s ∈ H, s ∉ F) (hd : ∀ s ∈ r.own, s ∉ H) : MrOk K X' tag' md' r := by
  obtain ⟨hs, ph⟩ := r
  refine ⟨fun s m => (h.has s m).other e (hd s (List.mem_append_left _ m)), h.nd, h.lt, ?_⟩
  have hp := h.ph
  cases ph with
  | idle => trivial
  | mk m =>
    have hp : MkOk K X tag md m := hp
    have hx : 1 ≤ m.pc → m.slot ∉ H := fun h1 => hd _ (by unfold Mr.own Ph.held; simp [show ¬ m.pc = 0 by omega])
    refine (⟨hp.fit, hp.pc, fun h0 => (hp.p0 h0).other tp e.eff hF, hp.nx0, fun h1 => (hp.free h1).other e (hx h1), fun h2 => ?_, fun h2 j h3 h4 => ?_, hp.nx2, hp.nx3⟩ : MkOk K X' tag' md' m)
    · rw [e.me _ (hx (by omega))]; exact hp.gen h2
    · rw [e.bd _ _ (hx (by omega)) h4]; exact hp.body h2 j h3 h4
  | fr f =>
    have hp : FrOk K X tag md f := hp
    have hx : f.q.sl ∉ H := hd _ (by unfold Mr.own Ph.held; simp)
    refine (⟨hp.ok, hp.bg, hp.pc, hp.q.other e.eff hx, fun h1 => (hp.lim h1).other e hx, fun h1 => ?_, fun h1 => (hp.free h1).other e hx, hp.q0⟩ : FrOk K X' tag' md' f)
    rw [e.hd _ hx]; exact hp.fd h1

/-- All makers and the words. -/
structure Inv (K : Cf) (n : Nat) (X : List Nat) (tag : Nat) (F md : List Nat) (R : Nat → Mr) : Prop where
  tp : Top K X tag F
  ml : md.length = K.S
  x2 : X.getD 2 0 = 0
  nf : ∀ i, i < n → ∀ s ∈ (R i).own, s ∉ F
  dis : ∀ i, i < n → ∀ j, j < n → i ≠ j → ∀ s ∈ (R i).own, s ∉ (R j).own
  free : ∀ s ∈ F, FreeH K X md s
  ok : ∀ i, i < n → MrOk K X tag md (R i)
def upd (R : Nat → Mr) (i : Nat) (r : Mr) : Nat → Mr := fun j => if j = i then r else R j
theorem Inv.upd {K : Cf} {n : Nat} {X : List Nat} {tag : Nat} {F md : List Nat} {R : Nat → Mr} (I : Inv K n X tag F md R) {i : Nat} (hi : i < n) {X' F' md' : List Nat} {tag' : Nat} {r' : Mr}
    (tp : Top K X' tag' F') (e : Ef K (R i).own X md tag X' md' tag') (hF : ∀ s ∈ F', (s ∈ F ∨ s ∈ (R i).own) ∧ FreeH K X' md' s) (ho : ∀ s ∈ r'.own, (s ∈ F ∨ s ∈ (R i).own) ∧ s ∉ F') (ok : MrOk K X' tag' md' r') :
    Inv K n X' tag' F' md' (upd R i r') := by
  have hoth : ∀ j, j < n → j ≠ i → ∀ s ∈ (R j).own, s ∉ F ∧ s ∉ (R i).own := fun j hj hji s hs => ⟨I.nf j hj s hs, I.dis j hj i hi hji s hs⟩
  refine ⟨tp, e.ml.trans I.ml, e.x2.trans I.x2, fun j hj s hs => ?_, fun j hj k hk hjk s hs => ?_, fun s hs => (hF s hs).2, fun j hj => ?_⟩
  · unfold Proofs.YtjbjijkkmlehgaaDoor.upd at hs
    by_cases hji : j = i
    · rw [if_pos hji] at hs; exact (ho s hs).2
    · rw [if_neg hji] at hs
      obtain ⟨a1, a2⟩ := hoth j hj hji s hs
      exact fun h => ((hF s h).1).elim a1 a2
  · unfold Proofs.YtjbjijkkmlehgaaDoor.upd at hs ⊢
    by_cases hji : j = i
    · rw [if_pos hji] at hs
      have hki : ¬ k = i := fun h => hjk (by omega)
      rw [if_neg hki]
      intro h
      obtain ⟨a1, a2⟩ := hoth k hk hki s h
      exact ((ho s hs).1).elim a1 a2
    · rw [if_neg hji] at hs
      by_cases hki : k = i
      · rw [if_pos hki]
        intro h
        obtain ⟨a1, a2⟩ := hoth j hj hji s hs
        exact ((ho s h).1).elim a1 a2
      · rw [if_neg hki]
        exact I.dis j hj k hk hjk s hs
  · unfold Proofs.YtjbjijkkmlehgaaDoor.upd
    by_cases hji : j = i
    · rw [if_pos hji]; exact ok
    · rw [if_neg hji]
      exact (I.ok j hj).other I.tp e (fun s hs => I.nf i hi s hs) (fun s hs => (hoth j hj hji s hs).2)
theorem Ef.refl (K : Cf) (H X md : List Nat) (tag : Nat) : Ef K H X md tag X md tag := ⟨.inl ⟨rfl, rfl⟩, fun _ _ => rfl, fun _ _ _ _ => rfl, fun _ _ => rfl, rfl, rfl⟩
theorem Ef.top (K : Cf) (H X md : List Nat) (tag v : Nat) : Ef K H X md tag (X.set 3 v) md (tag + 1) := by
  refine ⟨.inr (.inr (.inr ⟨v, rfl, rfl⟩)), fun s _ => ?_, fun s j _ _ => ?_, fun _ _ => rfl, ?_, rfl⟩
  · rw [getD_set, if_neg (by have := K.hd_4 s; omega)]
  · rw [getD_set, if_neg (by have := K.bd_4 s j; omega)]
  · rw [getD_set, if_neg (by omega)]
theorem Ef.link (K : Cf) {H : List Nat} (X md : List Nat) (tag v : Nat) {t : Nat} (ht : t ∈ H) : Ef K H X md tag (X.set (K.lk t) v) md tag := by
  refine ⟨.inr (.inl ⟨v, t, ht, rfl, rfl⟩), fun s _ => ?_, fun s j _ hj => ?_, fun _ _ => rfl, ?_, rfl⟩
  · rw [getD_set, if_neg (fun e => K.hd_lk s t e.1.symm)]
  · rw [getD_set, if_neg (fun e => K.bd_lk hj e.1.symm)]
  · rw [getD_set, if_neg (by have := K.lk_4 t; omega)]
theorem Ef.body (K : Cf) {H : List Nat} (X md : List Nat) (tag v : Nat) {t i : Nat} (ht : t ∈ H) (hi : i < K.B) : Ef K H X md tag (X.set (K.bd t i) v) md tag := by
  refine ⟨.inr (.inr (.inl ⟨v, K.bd t i, by have := K.bd_4 t i; omega, fun s => K.bd_lk hi, rfl, rfl⟩)), fun s _ => ?_, fun s j hs hj => ?_, fun _ _ => rfl, ?_, rfl⟩
  · rw [getD_set, if_neg (fun e => K.bd_hd hi e.1)]
  · rw [getD_set, if_neg]
    rintro ⟨e, _⟩
    exact hs ((K.bd_inj hi hj e).1 ▸ ht)
  · rw [getD_set, if_neg (by have := K.bd_4 t i; omega)]
theorem Ef.head (K : Cf) {H : List Nat} (X : List Nat) {md md' : List Nat} (tag v : Nat) {t : Nat} (ht : t ∈ H) (hm : ∀ s, s ≠ t → md'.getD s 0 = md.getD s 0) (hl : md'.length = md.length) : Ef K H X md tag (X.set (K.hd t) v) md' tag := by
  refine ⟨.inr (.inr (.inl ⟨v, K.hd t, by have := K.hd_4 t; omega, fun s => K.hd_lk t s, rfl, rfl⟩)), fun s hs => ?_, fun s j hs hj => ?_, fun s hs => hm s (fun e => hs (e ▸ ht)), ?_, hl⟩
  · rw [getD_set, if_neg]
    rintro ⟨e, _⟩
    exact hs (K.hd_inj e ▸ ht)
  · rw [getD_set, if_neg (fun e => K.bd_hd hj e.1.symm)]
  · rw [getD_set, if_neg (by have := K.hd_4 t; omega)]

theorem free_hr {K : Cf} {X md : List Nat} {s : Nat} (h : FreeH K X md s) (hg : K.g ≤ 40) : Hr 0 0 0 (md.getD s 0) 0 := by
  have := h.2
  exact ⟨by omega, by omega, by omega, by omega, by omega⟩
theorem free_gen {K : Cf} {X md : List Nat} {s : Nat} (h : FreeH K X md s) (hg : K.g ≤ 40) : genW (X.getD (K.hd s) 0) = md.getD s 0 := by
  have hr := free_hr h hg
  rw [h.1]
  unfold genW
  rw [Hh.okW_word false hr, if_pos rfl]
  exact (Hh.word_parts false hr).2.2.2.2.2.1

theorem FreeH.kept {K : Cf} {X X' md : List Nat} {s : Nat} (h : FreeH K X md s) (e : X'.getD (K.hd s) 0 = X.getD (K.hd s) 0) : FreeH K X' md s := by
  unfold FreeH at h ⊢
  rw [e]; exact h
theorem LiveH.kept {K : Cf} {X X' md md' : List Nat} {P : Nat → Prop} {s : Nat} (h : LiveH K X md P s) (e : X'.getD (K.hd s) 0 = X.getD (K.hd s) 0) (e2 : md'.getD s 0 = md.getD s 0) : LiveH K X' md' P s := by
  unfold LiveH at h ⊢
  rw [e, e2]; exact h
/-- A Make's step among all. -/
theorem Inv.make {K : Cf} (hK : K.Ok) (hg : K.g ≤ 40) {n : Nat} {X : List Nat} {tag : Nat} {F md : List Nat} {R : Nat → Mr} (I : Inv K n X tag F md R) {i : Nat} (hi : i < n) {hs : List Nat} {m : Mk} (hr : R i = ⟨hs, .mk m⟩) (ht : tag + 1 < 281474976710656) (hX : ∀ i, X.getD i 0 < 18446744073709551616) :
    ∃ tag' F', tag' ≤ tag + 1 ∧
      (((mkX K X m).2.pc ≤ 3 ∧ Inv K n (mkX K X m).1 tag' F' md (Proofs.YtjbjijkkmlehgaaDoor.upd R i ⟨hs, .mk (mkX K X m).2⟩)) ∨
       ((mkX K X m).2.pc = 4 ∧ (mkX K X m).2.full = true ∧ (mkX K X m).2.sl = -1 ∧ Inv K n (mkX K X m).1 tag' F' md (Proofs.YtjbjijkkmlehgaaDoor.upd R i ⟨hs, .idle⟩)) ∨
       (∃ s : Nat, (mkX K X m).2.pc = 4 ∧ (mkX K X m).2.full = false ∧ (mkX K X m).2.sl = (s : Int) ∧ s < K.S ∧ Inv K n (mkX K X m).1 tag' F' (md.set s (md.getD s 0 + 1)) (Proofs.YtjbjijkkmlehgaaDoor.upd R i ⟨hs ++ [s], .idle⟩) ∧
          (mkX K X m).1.getD (K.hd s) 0 = madeW m.kind m.ar (md.getD s 0) m.e ∧ ((md.getD s 0 : Nat) : Int) + 1 ≤ K.g ∧ ∀ j, j < K.B → (mkX K X m).1.getD (K.bd s j) 0 = m.body.getD j 0)) := by
  have ok := I.ok i hi
  rw [hr] at ok
  have mo : MkOk K X tag md m := ok.ph
  have h3 := mo.pc
  have fit' := mkX_fit mo.fit h3 hX
  have hnf := I.nf i hi
  rw [hr] at hnf
  have hown : (R i).own = hs ++ (if m.pc = 0 then [] else [m.slot]) := by rw [hr]; rfl
  rcases (show m.pc = 0 ∨ m.pc = 1 ∨ m.pc = 2 ∨ m.pc = 3 by omega) with e | e | e | e
  · rw [if_pos e, List.append_nil] at hown
    have hin : ∀ s ∈ hs, s ∈ (R i).own := fun s h => by rw [hown]; exact h
    have hnd : hs.Nodup := by have := ok.nd; unfold Mr.own Ph.held at this; simp only [if_pos e, List.append_nil] at this; exact this
    have hlt : ∀ s ∈ hs, s < K.S := fun s h => ok.lt s (by unfold Mr.own; exact List.mem_append_left _ h)
    rw [mkX_0 e] at fit' ⊢
    rcases popCases hK I.tp (mo.p0 e) ht with ⟨a1, a2, a3, a4, a5⟩ | ⟨a1, a2, a3, a4, a5⟩ | ⟨s, F', a1, a2, a3, a4, ⟨v, a5⟩, a6⟩
    · simp only [if_neg (show ¬ (popX K X m.p).2.pc = 3 by omega)] at fit' ⊢
      refine ⟨tag, F, by omega, .inl ⟨by show m.pc ≤ 3; omega, ?_⟩⟩
      rw [a2]
      refine I.upd hi I.tp (Ef.refl _ _ _ _ _) (fun s h => ⟨.inl h, I.free s h⟩) (fun s h => ?_) ?_
      · have h' : s ∈ hs := by unfold Mr.own Ph.held at h; simp only [if_pos e, List.append_nil] at h; exact h
        exact ⟨.inr (hin s h'), I.nf i hi s (hin s h')⟩
      · refine ⟨ok.has, ?_, fun s h => ?_, (⟨fit', by show m.pc ≤ 3; omega, fun _ => a5, fun _ => mo.nx0 (by omega), (fun h => by have : 1 ≤ m.pc := h; omega), (fun h => by have : 2 ≤ m.pc := h; omega), (fun h => by have : 2 ≤ m.pc := h; omega), (fun h => by have : m.pc = 2 := h; omega), (fun h => by have : m.pc = 3 := h; omega)⟩ : MkOk _ _ _ _ _)⟩
        · unfold Mr.own Ph.held; simp only [if_pos e, List.append_nil]; exact hnd
        · unfold Mr.own Ph.held at h; simp only [if_pos e, List.append_nil] at h; exact hlt s h
    · simp only [if_pos a2, if_pos a4] at fit' ⊢
      refine ⟨tag, F, by omega, .inr (.inl ⟨trivial, trivial, (mo.fit.sl (by omega)).1, ?_⟩)⟩
      rw [a3]
      refine I.upd hi I.tp (Ef.refl _ _ _ _ _) (fun s h => ⟨.inl h, I.free s h⟩) (fun s h => ?_) ?_
      · have h' : s ∈ hs := by unfold Mr.own Ph.held at h; simp only [List.append_nil] at h; exact h
        exact ⟨.inr (hin s h'), I.nf i hi s (hin s h')⟩
      · refine ⟨ok.has, ?_, fun s h => ?_, trivial⟩
        · unfold Mr.own Ph.held; simp only [List.append_nil]; exact hnd
        · unfold Mr.own Ph.held at h; simp only [List.append_nil] at h; exact hlt s h
    · have a4' : ¬ (popX K X m.p).2.em = true := by rw [a4, mo.fit.em e]; simp
      simp only [if_pos a2, if_neg a4'] at fit' ⊢
      refine ⟨tag + 1, F', by omega, .inl ⟨by omega, ?_⟩⟩
      have hsl : ({ m with p := (popX K X m.p).2, pc := 1 } : Mk).slot = s := by unfold Mk.slot; show (popX K X m.p).2.sl.toNat = s; rw [a3]; rfl
      have hsF : s ∈ F := by rw [a1]; simp
      have hnd2 : s ∉ F' := by have := I.tp.nd; rw [a1] at this; exact (List.nodup_cons.1 this).1
      have hFs : ∀ t ∈ F', t ∈ F := fun t h => by rw [a1]; simp [h]
      have ef : Ef K (R i).own X md tag (popX K X m.p).1 md (tag + 1) := by rw [a5]; exact Ef.top _ _ _ _ _ _
      have hF4 : ∀ t ∈ F, t ∉ (R i).own := fun t h1 h2 => I.nf i hi t h2 h1
      have hin3 : ∀ t ∈ (⟨hs, .mk { m with p := (popX K X m.p).2, pc := 1 }⟩ : Mr).own, t ∈ hs ∨ t = s := fun t h => by
        unfold Mr.own Ph.held at h
        simp only [List.mem_append, if_neg (show ¬ (1 = 0) by omega), List.mem_singleton] at h
        rw [hsl] at h
        exact h
      refine I.upd hi a6 ef (fun t h => ⟨.inl (hFs t h), (I.free t (hFs t h)).other ef (hF4 t (hFs t h))⟩) (fun t h => ?_) ?_
      · rcases hin3 t h with h | rfl
        · exact ⟨.inr (hin t h), fun h' => I.nf i hi t (hin t h) (hFs t h')⟩
        · exact ⟨.inl hsF, hnd2⟩
      · have hsn : s ∉ hs := fun h => I.nf i hi s (hin s h) hsF
        have hl : ∀ t ∈ hs, LiveH K (popX K X m.p).1 md (fun k => k = 1 ∨ k = 2) t := fun t h => by
          obtain ⟨k, m', a, b1, b2, b3, b4⟩ := ok.has t h
          refine ⟨k, m', a, b1, b2, ?_, b4⟩
          rw [a5, getD_set, if_neg (by have := K.hd_4 t; omega)]; exact b3
        refine ⟨hl, ?_, fun t h => ?_, (⟨fit', by show 1 ≤ 3; omega, (fun h => by cases h), fun _ => mo.nx0 (by omega), fun _ => ?_, (fun h => by have : 2 ≤ 1 := h; omega), (fun h => by have : 2 ≤ 1 := h; omega), (fun h => by cases h), (fun h => by cases h)⟩ : MkOk _ _ _ _ _)⟩
        · unfold Mr.own Ph.held
          simp only [if_neg (show ¬ (1 = 0) by omega)]
          rw [hsl]
          exact List.nodup_append.2 ⟨hnd, by simp, fun a h b h' => by simp at h'; subst h'; intro e'; subst e'; exact hsn h⟩
        · rcases hin3 t h with h | rfl
          · exact hlt t h
          · exact I.tp.ch.lt _ hsF
        · rw [hsl]
          exact (I.free s hsF).other ef (hF4 s hsF)
  all_goals rw [if_neg (by omega)] at hown
  all_goals have hin : ∀ s ∈ hs, s ∈ (R i).own := fun s h => by rw [hown]; exact List.mem_append_left _ h
  all_goals have hsm : m.slot ∈ (R i).own := by rw [hown]; simp
  all_goals have hnd : (hs ++ [m.slot]).Nodup := by have := ok.nd; unfold Mr.own Ph.held at this; simp only [if_neg (show ¬ m.pc = 0 by omega)] at this; exact this
  all_goals have hlt : ∀ s ∈ hs ++ [m.slot], s < K.S := fun s h => ok.lt s (by unfold Mr.own Ph.held; simp only [if_neg (show ¬ m.pc = 0 by omega)]; exact h)
  all_goals have hsS : m.slot < K.S := hlt _ (by simp)
  all_goals have hsn : m.slot ∉ hs := fun h => (List.nodup_append.1 hnd).2.2 _ h _ (by simp) rfl
  all_goals have hfr := mo.free (by omega)
  all_goals have hF4 : ∀ t ∈ F, t ∉ (R i).own := fun t h1 h2 => I.nf i hi t h2 h1
  · rw [mkX_1 e] at fit' ⊢
    refine ⟨tag, F, by omega, .inl ⟨by show 2 ≤ 3; omega, ?_⟩⟩
    refine I.upd hi I.tp (Ef.refl _ _ _ _ _) (fun s h => ⟨.inl h, I.free s h⟩) (fun s h => ?_) ?_
    · have h' : s ∈ (R i).own := by rw [hown]; exact h
      exact ⟨.inr h', I.nf i hi s h'⟩
    · exact ⟨ok.has, hnd, hlt, (⟨fit', by show 2 ≤ 3; omega, (fun h => by cases h), (fun h => by have : 2 ≤ 1 := h; omega), fun _ => hfr, fun _ => free_gen hfr hg, fun _ j h => by have h0 := mo.nx0 (by omega); have : j < m.nx := h; omega, fun _ => by have h0 := mo.nx0 (by omega); have := hK.b3; show m.nx < K.B; omega, (fun h => by cases h)⟩ : MkOk _ _ _ _ _)⟩
  · have hnx := mo.nx2 e
    have hl := mo.fit.ok.len
    have hgn := mo.gen (by omega)
    have hbd := mo.body (by omega)
    rw [mkX_2 e] at fit' ⊢
    have tp := I.tp.other (i := K.bd m.slot m.nx) (by have := K.bd_4 m.slot m.nx; omega) (fun t => K.bd_lk hnx) (m.body.getD m.nx 0)
    have ef : Ef K (R i).own X md tag (X.set (K.bd m.slot m.nx) (m.body.getD m.nx 0)) md tag := Ef.body K X md tag _ hsm hnx
    have ehd : ∀ t, (X.set (K.bd m.slot m.nx) (m.body.getD m.nx 0)).getD (K.hd t) 0 = X.getD (K.hd t) 0 := fun t => by rw [getD_set, if_neg (fun e => K.bd_hd hnx e.1)]
    have hpc : (if m.nx + 1 = m.body.length then 3 else 2) = 3 ∧ m.nx + 1 = K.B ∨ (if m.nx + 1 = m.body.length then 3 else 2) = 2 ∧ m.nx + 1 < K.B := by split <;> omega
    generalize (if m.nx + 1 = m.body.length then 3 else 2) = pc' at *
    refine ⟨tag, F, by omega, .inl ⟨by show pc' ≤ 3; omega, ?_⟩⟩
    have hh : (if pc' = 0 then [] else [m.slot]) = [m.slot] := if_neg (by omega)
    refine I.upd hi tp ef (fun s h => ⟨.inl h, (I.free s h).kept (ehd s)⟩) (fun s h => ?_) ?_
    · have h' : s ∈ (R i).own := by
        rw [hown, ← hh]; exact h
      exact ⟨.inr h', I.nf i hi s h'⟩
    · refine ⟨fun s h => (ok.has s h).kept (ehd s) rfl, ?_, fun s h => ?_, (⟨fit', by show pc' ≤ 3; omega, (fun h => by have : pc' = 0 := h; omega), (fun h => by have : pc' ≤ 1 := h; omega), fun _ => hfr.kept (ehd _), fun _ => hgn, fun _ j h hj => ?_, fun h => by have : pc' = 2 := h; show m.nx + 1 < K.B; omega, fun h => by have : pc' = 3 := h; show m.nx + 1 = K.B; omega⟩ : MkOk _ _ _ _ _)⟩
      · show (hs ++ (if pc' = 0 then [] else [m.slot])).Nodup
        rw [hh]; exact hnd
      · have h : s ∈ hs ++ (if pc' = 0 then [] else [m.slot]) := h
        rw [hh] at h; exact hlt s h
      · have h : j < m.nx + 1 := h
        show (X.set (K.bd m.slot m.nx) (m.body.getD m.nx 0)).getD (K.bd m.slot j) 0 = m.body.getD j 0
        rw [getD_set]
        by_cases ej : m.nx = j
        · subst ej
          rw [if_pos ⟨rfl, by rw [I.tp.len]; exact K.bd_lt hsS hnx⟩]
        · rw [if_neg (fun x => ej (K.bd_inj hnx hj x.1).2)]
          exact hbd j (by omega) hj
  · have hnx := mo.nx3 e
    have hgn := mo.gen (by omega)
    have hbd := mo.body (by omega)
    rw [mkX_3 e] at fit' ⊢
    obtain ⟨s0, hs0, hps⟩ := mo.fit.ok.some (by omega) (by omega)
    have hsl : m.slot = s0 := by unfold Mk.slot; rw [hps]; rfl
    rw [← hsl] at hps
    have tp := I.tp.other (i := K.hd m.slot) (by have := K.hd_4 m.slot; omega) (fun t => K.hd_lk _ _) (madeW m.kind m.ar m.gen m.e)
    rw [hgn] at tp ⊢
    have hml : m.slot < md.length := by rw [I.ml]; exact hsS
    have em : (md.set m.slot (md.getD m.slot 0 + 1)).getD m.slot 0 = md.getD m.slot 0 + 1 := by rw [getD_set, if_pos ⟨rfl, hml⟩]
    have em2 : ∀ t, t ≠ m.slot → (md.set m.slot (md.getD m.slot 0 + 1)).getD t 0 = md.getD t 0 := fun t h => by rw [getD_set, if_neg (fun x => h x.1.symm)]
    have ef : Ef K (R i).own X md tag (X.set (K.hd m.slot) (madeW m.kind m.ar (md.getD m.slot 0) m.e)) (md.set m.slot (md.getD m.slot 0 + 1)) tag := Ef.head K X tag _ hsm em2 (by simp)
    have eh : (X.set (K.hd m.slot) (madeW m.kind m.ar (md.getD m.slot 0) m.e)).getD (K.hd m.slot) 0 = madeW m.kind m.ar (md.getD m.slot 0) m.e := by rw [getD_set, if_pos ⟨rfl, by rw [I.tp.len]; exact K.hd_lt hsS⟩]
    have eh2 : ∀ t, t ≠ m.slot → (X.set (K.hd m.slot) (madeW m.kind m.ar (md.getD m.slot 0) m.e)).getD (K.hd t) 0 = X.getD (K.hd t) 0 := fun t h => by rw [getD_set, if_neg (fun x => h (K.hd_inj x.1).symm)]
    have hgb := hfr.2
    refine ⟨tag, F, by omega, .inr (.inr ⟨m.slot, rfl, (mo.fit.sl (by omega)).2, hps, hsS, ?_, eh, by omega, fun j hj => ?_⟩)⟩
    · refine I.upd hi tp ef (fun s h => ⟨.inl h, (I.free s h).other ef (hF4 s h)⟩) (fun s h => ?_) ?_
      · have h' : s ∈ (R i).own := by rw [hown]; unfold Mr.own Ph.held at h; rw [List.append_nil] at h; exact h
        exact ⟨.inr h', I.nf i hi s h'⟩
      · refine ⟨fun s h => ?_, ?_, fun s h => ?_, trivial⟩
        · rcases List.mem_append.1 h with h | h
          · have hne : s ≠ m.slot := fun x => hsn (x ▸ h)
            exact (ok.has s h).kept (eh2 s hne) (em2 s hne)
          · rw [List.mem_singleton] at h
            subst h
            have hkd := mo.fit.ok.kind
            refine ⟨m.kind, Hh.bornN m.e, m.ar, hkd, ?_, ?_, ?_, ?_⟩
            · rw [em]
              exact ⟨by omega, Hh.bornN_lt m.e, mo.fit.ok.ar, by omega, by omega⟩
            · rw [em, eh]
              rfl
            · rw [em]; omega
            · rw [em]; omega
        · unfold Mr.own Ph.held; rw [List.append_nil]; exact hnd
        · unfold Mr.own Ph.held at h; rw [List.append_nil] at h; exact hlt s h
    · rw [getD_set, if_neg (fun x => K.bd_hd hj x.1.symm)]
      exact hbd j (by omega) hj

theorem lim_word {K M : Nat} (g : Bool) {A N S : Nat} (h : Hr K M A N S) : limboW (wordOf K M g.toNat A N S) = decide (K = 3) := by
  unfold limboW
  rw [Hh.okW_word g h, (Hh.word_parts g h).1]
  simp
theorem fdw_free {M : Nat} (g : Bool) {A N S : Nat} (h : Hr 3 M A N S) {x : Int} (hx : (N : Int) + 1 < x) (h40 : x ≤ 40) : fdW (wordOf 3 M g.toNat A N S) x = wordOf 0 0 (false : Bool).toNat 0 (N + 1) 0 ∧ kdW (wordOf 0 0 (false : Bool).toNat 0 (N + 1) 0) = 0 := by
  have hl := lim_word g h
  obtain ⟨p0, _, _, _, _, p5, _, _⟩ := Hh.word_parts g h
  have hr : Hr 0 0 0 (N + 1) 0 := ⟨by omega, by omega, by omega, by omega, by omega⟩
  refine ⟨?_, ?_⟩
  · unfold fdW
    rw [hl, if_pos (by rfl), p5, if_pos ⟨by omega, hx⟩]
  · unfold kdW
    rw [Hh.okW_word false hr, if_pos rfl]
    exact (Hh.word_parts false hr).1
theorem fdw_dead {M : Nat} (g : Bool) {A N S : Nat} (h : Hr 3 M A N S) {x : Int} (hx : ¬ (N : Int) + 1 < x) : fdW (wordOf 3 M g.toNat A N S) x = wordOf 4 M g.toNat A N S ∧ kdW (wordOf 4 M g.toNat A N S) = 4 ∧ okW (wordOf 4 M g.toNat A N S) = true := by
  have hl := lim_word g h
  obtain ⟨p0, _, _, _, _, p5, _, _⟩ := Hh.word_parts g h
  have hr : Hr 4 M A N S := ⟨by omega, h.m, h.a, h.n, h.s⟩
  refine ⟨?_, ?_, Hh.okW_word g hr⟩
  · unfold fdW
    rw [hl, if_pos (by rfl), p5, if_neg (fun e => hx e.2)]
    unfold wordOf; omega
  · unfold kdW
    rw [Hh.okW_word g hr, if_pos rfl]
    exact (Hh.word_parts g hr).1

/-- A Free's step among all. -/
theorem Inv.frees {K : Cf} (hK : K.Ok) (hg : K.g ≤ 40) {n : Nat} {X : List Nat} {tag : Nat} {F md : List Nat} {R : Nat → Mr} (I : Inv K n X tag F md R) {i : Nat} (hi : i < n) {hs : List Nat} {f : Fr} (hr : R i = ⟨hs, .fr f⟩) (ht : tag + 1 < 281474976710656) (hX : ∀ i, X.getD i 0 < 18446744073709551616) :
    ∃ tag' F', tag' ≤ tag + 1 ∧
      (((frX K X f).2.pc ≤ 2 ∧ Inv K n (frX K X f).1 tag' F' md (Proofs.YtjbjijkkmlehgaaDoor.upd R i ⟨hs, .fr (frX K X f).2⟩)) ∨
       ((frX K X f).2.pc = 3 ∧ Inv K n (frX K X f).1 tag' F' md (Proofs.YtjbjijkkmlehgaaDoor.upd R i ⟨hs, .idle⟩) ∧
          ((K.g ≤ (md.getD f.q.sl 0 : Int) ∧ (frX K X f).2.gone = true ∧ (frX K X f).2.back = false ∧ okW ((frX K X f).1.getD (K.hd f.q.sl) 0) = true ∧ kdW ((frX K X f).1.getD (K.hd f.q.sl) 0) = 4) ∨
           ((md.getD f.q.sl 0 : Int) < K.g ∧ (frX K X f).2.gone = false ∧ (frX K X f).2.back = true ∧ okW ((frX K X f).1.getD (K.hd f.q.sl) 0) = true)))) := by
  have ok := I.ok i hi
  rw [hr] at ok
  have fo : FrOk K X tag md f := ok.ph
  have h2 := fo.pc
  have ok' := frX_ok fo.ok h2 hX
  have hown : (R i).own = hs ++ [f.q.sl] := by rw [hr]; rfl
  have hin : ∀ s ∈ hs, s ∈ (R i).own := fun s h => by rw [hown]; exact List.mem_append_left _ h
  have hsm : f.q.sl ∈ (R i).own := by rw [hown]; simp
  have hnd : (hs ++ [f.q.sl]).Nodup := ok.nd
  have hlt : ∀ s ∈ hs ++ [f.q.sl], s < K.S := ok.lt
  have hsS : f.q.sl < K.S := hlt _ (by simp)
  have hsn : f.q.sl ∉ hs := fun h => (List.nodup_append.1 hnd).2.2 _ h _ (by simp) rfl
  have hnd1 : (hs ++ []).Nodup := by rw [List.append_nil]; exact (List.nodup_append.1 hnd).1
  have hlt1 : ∀ s ∈ hs ++ [], s < K.S := fun s h => by rw [List.append_nil] at h; exact hlt s (by simp [h])
  have hin1 : ∀ s ∈ hs ++ [], s ∈ (R i).own ∧ s ≠ f.q.sl := fun s h => by rw [List.append_nil] at h; exact ⟨hin s h, fun x => hsn (x ▸ h)⟩
  have hF4 : ∀ t ∈ F, t ∉ (R i).own := fun t h1 h2 => I.nf i hi t h2 h1
  have hin2 : ∀ s ∈ hs ++ [f.q.sl], s ∈ (R i).own := fun s h => by rw [hown]; exact h
  rcases (show f.pc = 0 ∨ f.pc = 1 ∨ f.pc = 2 by omega) with e | e | e
  · have hl := fo.lim (by omega)
    obtain ⟨k, m, a, b1, b2, b3, b4, b5⟩ := hl
    subst b1
    have hlw : limboW (X.getD (K.hd f.q.sl) 0) = true := by rw [b3, lim_word false b2]; rfl
    rw [frX_0 e] at ok' ⊢
    simp only [if_pos hlw] at ok' ⊢
    refine ⟨tag, F, by omega, .inl ⟨by omega, ?_⟩⟩
    refine I.upd hi I.tp (Ef.refl _ _ _ _ _) (fun s h => ⟨.inl h, I.free s h⟩) (fun s h => ⟨.inr (hin2 s h), I.nf i hi s (hin2 s h)⟩) ?_
    exact ⟨ok.has, hnd, hlt, (⟨ok', fo.bg, by show 1 ≤ 2; omega, fo.q, fun _ => fo.lim (by omega), fun _ => rfl, (fun h => by cases h), fun _ => fo.q0 (by omega)⟩ : FrOk _ _ _ _ _)⟩
  · have hl := fo.lim (by omega)
    have hfd := fo.fd e
    have hq0 := fo.q0 (by omega)
    obtain ⟨k, m, a, b1, b2, b3, b4, b5⟩ := hl
    subst b1
    rw [b3] at hfd
    have tp := I.tp.other (i := K.hd f.q.sl) (by have := K.hd_4 f.q.sl; omega) (fun t => K.hd_lk _ _) f.fd
    have ef : Ef K (R i).own X md tag (X.set (K.hd f.q.sl) f.fd) md tag := Ef.head K X tag _ hsm (fun _ _ => rfl) rfl
    have eh : (X.set (K.hd f.q.sl) f.fd).getD (K.hd f.q.sl) 0 = f.fd := by rw [getD_set, if_pos ⟨rfl, by rw [I.tp.len]; exact K.hd_lt hsS⟩]
    have eh2 : ∀ t, t ≠ f.q.sl → (X.set (K.hd f.q.sl) f.fd).getD (K.hd t) 0 = X.getD (K.hd t) 0 := fun t h => by rw [getD_set, if_neg (fun x => h (K.hd_inj x.1).symm)]
    have hhas : ∀ s ∈ hs, LiveH K (X.set (K.hd f.q.sl) f.fd) md (fun k => k = 1 ∨ k = 2) s := fun s h => (ok.has s h).kept (eh2 s (fun x => hsn (x ▸ h))) rfl
    rw [frX_1 e] at ok' ⊢
    by_cases hx : ((md.getD f.q.sl 0 - 1 : Nat) : Int) + 1 < K.g
    · obtain ⟨c1, c2⟩ := fdw_free false b2 hx hg
      rw [c1] at hfd
      have hk4 : ¬ kdW f.fd = 4 := by rw [hfd, c2]; omega
      simp only [if_neg hk4] at ok' ⊢
      refine ⟨tag, F, by omega, .inl ⟨by omega, ?_⟩⟩
      refine I.upd hi tp ef (fun s h => ⟨.inl h, (I.free s h).other ef (hF4 s h)⟩) (fun s h => ⟨.inr (hin2 s h), I.nf i hi s (hin2 s h)⟩) ?_
      have hq : QInv K (X.set (K.hd f.q.sl) f.fd) tag f.q := by
        have hq := fo.q
        refine ⟨hq.pc, (fun h => by omega), (fun h => by omega)⟩
      refine ⟨hhas, hnd, hlt, (⟨ok', fo.bg, by show 2 ≤ 2; omega, hq, (fun h => by have : 2 ≤ 1 := h; omega), (fun h => by cases h), fun _ => ?_, (fun h => by have : 2 ≤ 1 := h; omega)⟩ : FrOk _ _ _ _ _)⟩
      show FreeH K (X.set (K.hd f.q.sl) f.fd) md f.q.sl
      unfold FreeH
      rw [eh, hfd]
      exact ⟨by rw [show md.getD f.q.sl 0 - 1 + 1 = md.getD f.q.sl 0 by omega], by omega⟩
    · obtain ⟨c1, c2, c3⟩ := fdw_dead false b2 hx
      rw [c1] at hfd
      have hk4 : kdW f.fd = 4 := by rw [hfd, c2]
      simp only [if_pos hk4] at ok' ⊢
      refine ⟨tag, F, by omega, .inr ⟨trivial, ?_, .inl ⟨by omega, trivial, fo.bg.1, by rw [eh, hfd]; exact c3, by rw [eh]; exact hk4⟩⟩⟩
      refine I.upd hi tp ef (fun s h => ⟨.inl h, (I.free s h).other ef (hF4 s h)⟩) (fun s h => ⟨.inr (hin1 s h).1, I.nf i hi s (hin1 s h).1⟩) ?_
      exact ⟨hhas, hnd1, hlt1, trivial⟩
  · have hfr := fo.free e
    have hrF := free_hr hfr hg
    rw [frX_2 e] at ok' ⊢
    rcases pushCases hK I.tp fo.q (I.nf i hi _ hsm) hsS ht with ⟨a1, a2, a3, a4, a5⟩ | ⟨a1, ⟨v, a2⟩, a3⟩
    · simp only [if_neg (show ¬ (pushX K X f.q).2.pc = 3 by omega)] at ok' ⊢
      refine ⟨tag, F, by omega, .inl ⟨by show f.pc ≤ 2; omega, ?_⟩⟩
      have ehd : ∀ t, (pushX K X f.q).1.getD (K.hd t) 0 = X.getD (K.hd t) 0 := fun t => by
        rcases a5 with a5 | ⟨v, a5⟩
        · rw [a5]
        · rw [a5, getD_set, if_neg (fun x => K.hd_lk t _ x.1.symm)]
      have ef : Ef K (R i).own X md tag (pushX K X f.q).1 md tag := by
        rcases a5 with a5 | ⟨v, a5⟩
        · rw [a5]; exact Ef.refl _ _ _ _ _
        · rw [a5]; exact Ef.link K X md tag v hsm
      have hh : hs ++ [(pushX K X f.q).2.sl] = hs ++ [f.q.sl] := by rw [a2]
      refine I.upd hi a4 ef (fun s h => ⟨.inl h, (I.free s h).kept (ehd s)⟩) (fun s h => ?_) ?_
      · have h : s ∈ hs ++ [(pushX K X f.q).2.sl] := h
        rw [hh] at h
        exact ⟨.inr (hin2 s h), I.nf i hi s (hin2 s h)⟩
      · refine ⟨fun s h => (ok.has s h).kept (ehd s) rfl, ?_, fun s h => ?_, (⟨ok', fo.bg, by show f.pc ≤ 2; omega, a3, (fun h => by have : f.pc ≤ 1 := h; omega), (fun h => by have : f.pc = 1 := h; omega), fun _ => ?_, (fun h => by have : f.pc ≤ 1 := h; omega)⟩ : FrOk _ _ _ _ _)⟩
        · show (hs ++ [(pushX K X f.q).2.sl]).Nodup
          rw [hh]; exact hnd
        · have h : s ∈ hs ++ [(pushX K X f.q).2.sl] := h
          rw [hh] at h; exact hlt s h
        · show FreeH K (pushX K X f.q).1 md (pushX K X f.q).2.sl
          rw [a2]; exact hfr.kept (ehd _)
    · simp only [if_pos a1] at ok' ⊢
      have ehd : ∀ t, (pushX K X f.q).1.getD (K.hd t) 0 = X.getD (K.hd t) 0 := fun t => by rw [a2, getD_set, if_neg (by have := K.hd_4 t; omega)]
      have ef : Ef K (R i).own X md tag (pushX K X f.q).1 md (tag + 1) := by rw [a2]; exact Ef.top _ _ _ _ _ _
      refine ⟨tag + 1, f.q.sl :: F, by omega, .inr ⟨trivial, ?_, .inr ⟨hfr.2, fo.bg.2, trivial, by rw [ehd, hfr.1]; exact Hh.okW_word false hrF⟩⟩⟩
      refine I.upd hi a3 ef (fun s h => ?_) (fun s h => ⟨.inr (hin1 s h).1, fun h' => ?_⟩) ?_
      · rcases List.mem_cons.1 h with rfl | h
        · exact ⟨.inr hsm, hfr.kept (ehd _)⟩
        · exact ⟨.inl h, (I.free s h).kept (ehd s)⟩
      · rcases List.mem_cons.1 h' with h' | h'
        · exact (hin1 s h).2 h'
        · exact I.nf i hi s (hin1 s h).1 h'
      · exact ⟨fun s h => (ok.has s h).kept (ehd s) rfl, hnd1, hlt1, trivial⟩

/-- A Make begins. -/
theorem Inv.begins {K : Cf} {n : Nat} {X : List Nat} {tag : Nat} {F md : List Nat} {R : Nat → Mr} (I : Inv K n X tag F md R) {i : Nat} (hi : i < n) {hs : List Nat} (hr : R i = ⟨hs, .idle⟩) {m : Mk} (hf : m.Fit K) (h0 : m.pc = 0) (hp : PInv K X tag m.p) (hx : m.nx = 0) : Inv K n X tag F md (Proofs.YtjbjijkkmlehgaaDoor.upd R i ⟨hs, .mk m⟩) := by
  have ok := I.ok i hi
  rw [hr] at ok
  have hown : (R i).own = hs ++ [] := by rw [hr]; rfl
  have hh : hs ++ (if m.pc = 0 then [] else [m.slot]) = hs ++ [] := by rw [if_pos h0]
  refine I.upd hi I.tp (Ef.refl _ _ _ _ _) (fun s h => ⟨.inl h, I.free s h⟩) (fun s h => ?_) ?_
  · have h : s ∈ hs ++ (if m.pc = 0 then [] else [m.slot]) := h
    rw [hh, ← hown] at h
    exact ⟨.inr h, I.nf i hi s h⟩
  · refine ⟨ok.has, ?_, fun s h => ?_, (⟨hf, by omega, fun _ => hp, fun _ => hx, (fun h => by omega), (fun h => by omega), (fun h => by omega), (fun h => by omega), (fun h => by omega)⟩ : MkOk _ _ _ _ _)⟩
    · show (hs ++ (if m.pc = 0 then [] else [m.slot])).Nodup
      rw [hh]; exact ok.nd
    · have h : s ∈ hs ++ (if m.pc = 0 then [] else [m.slot]) := h
      rw [hh] at h; exact ok.lt s h
/-- What a maker has longest goes into limbo, and its Free begins. -/
theorem Inv.limbo {K : Cf} {n : Nat} {X : List Nat} {tag : Nat} {F md : List Nat} {R : Nat → Mr} (I : Inv K n X tag F md R) {i : Nat} (hi : i < n) {s : Nat} {hs : List Nat} (hr : R i = ⟨s :: hs, .idle⟩) (hok : Fr.Ok ⟨false, false, ⟨s, 0, 0⟩, 0, 0⟩ K) :
    s < K.S ∧ ∃ k m a N, (k = 1 ∨ k = 2) ∧ Hr k m a N 0 ∧ X.getD (K.hd s) 0 = wordOf k m (false : Bool).toNat a N 0 ∧ Hr 3 m a N 0 ∧
      Inv K n (X.set (K.hd s) (wordOf 3 m (false : Bool).toNat a N 0)) tag F md (Proofs.YtjbjijkkmlehgaaDoor.upd R i ⟨hs, .fr ⟨false, false, ⟨s, 0, 0⟩, 0, 0⟩⟩) := by
  have ok := I.ok i hi
  rw [hr] at ok
  have hown : (R i).own = s :: hs ++ [] := by rw [hr]; rfl
  have hsm : s ∈ (R i).own := by rw [hown]; simp
  have hsS : s < K.S := ok.lt s (by unfold Mr.own; simp)
  obtain ⟨k, m, a, b1, b2, b3, b4, b5⟩ := ok.has s (by simp)
  have hr3 : Hr 3 m a (md.getD s 0 - 1) 0 := ⟨by omega, b2.m, b2.a, b2.n, b2.s⟩
  refine ⟨hsS, k, m, a, md.getD s 0 - 1, b1, b2, b3, hr3, ?_⟩
  have hnd : (s :: hs).Nodup := by have := ok.nd; unfold Mr.own Ph.held at this; simp only [List.append_nil] at this; exact this
  obtain ⟨hsn, hnd2⟩ := List.nodup_cons.1 hnd
  have tp := I.tp.other (i := K.hd s) (by have := K.hd_4 s; omega) (fun t => K.hd_lk _ _) (wordOf 3 m (false : Bool).toNat a (md.getD s 0 - 1) 0)
  have ef : Ef K (R i).own X md tag (X.set (K.hd s) (wordOf 3 m (false : Bool).toNat a (md.getD s 0 - 1) 0)) md tag := Ef.head K X tag _ hsm (fun _ _ => rfl) rfl
  have eh : (X.set (K.hd s) (wordOf 3 m (false : Bool).toNat a (md.getD s 0 - 1) 0)).getD (K.hd s) 0 = wordOf 3 m (false : Bool).toNat a (md.getD s 0 - 1) 0 := by rw [getD_set, if_pos ⟨rfl, by rw [I.tp.len]; exact K.hd_lt hsS⟩]
  have eh2 : ∀ t, t ≠ s → (X.set (K.hd s) (wordOf 3 m (false : Bool).toNat a (md.getD s 0 - 1) 0)).getD (K.hd t) 0 = X.getD (K.hd t) 0 := fun t h => by rw [getD_set, if_neg (fun x => h (K.hd_inj x.1).symm)]
  have hF4 : ∀ t ∈ F, t ∉ (R i).own := fun t h1 h2 => I.nf i hi t h2 h1
  have hin : ∀ t ∈ hs ++ [s], t ∈ (R i).own := fun t h => by
    rw [hown]
    rcases List.mem_append.1 h with h | h
    · simp [h]
    · simp at h; simp [h]
  refine I.upd hi tp ef (fun t h => ⟨.inl h, (I.free t h).other ef (hF4 t h)⟩) (fun t h => ⟨.inr (hin t h), I.nf i hi t (hin t h)⟩) ?_
  refine ⟨fun t h => (ok.has t (List.mem_cons_of_mem _ h)).kept (eh2 t (fun x => hsn (x ▸ h))) rfl, ?_, fun t h => ok.lt t (by have := hin t h; rw [hown] at this; exact this), (⟨hok, ⟨rfl, rfl⟩, by show 0 ≤ 2; omega, push0_inv K _ tag s, fun _ => ⟨3, m, a, rfl, hr3, eh, b4, b5⟩, (fun h => by cases h), (fun h => by cases h), fun _ => rfl⟩ : FrOk _ _ _ _ _)⟩
  show (hs ++ [s]).Nodup
  exact List.nodup_append.2 ⟨hnd2, by simp, fun a h b h' => by simp at h'; subst h'; intro e'; subst e'; exact hsn h⟩
end Go.Proofs.YtjbjijkkmlehgaaDoor
/- Makers: how all begins, and what is to be seen in the end. -/
namespace Go.Proofs.YtjbjijkkmlehgaaDoor
open Mm (MS touched)
open Hh (okW wordOf Hr)
set_option linter.unusedVariables false

theorem Inv.new {K : Cf} (hK : K.Ok) (hg : 1 ≤ K.g) (n : Nat) : Inv K n (memK0 K).X 0 (List.range' 0 K.S) (List.replicate K.S 0) (fun _ => ⟨[], .idle⟩) := by
  have hN := hK.N_b
  refine ⟨top_new hK, by simp, ?_, fun i _ s h => by unfold Mr.own Ph.held at h; simp at h, fun i _ j _ _ s h => by unfold Mr.own Ph.held at h; simp at h, fun s h => ?_, fun i _ => ⟨fun s h => by simp at h, by unfold Mr.own Ph.held; simp, fun s h => by unfold Mr.own Ph.held at h; simp at h, trivial⟩⟩
  · show (memX K.C K.D K.B K.N (K.S - 1)).getD 2 0 = 0
    rw [memX_get _ _ _ _ _ _ (by omega)]
    rfl
  · have hs : s < K.S := by rw [List.mem_range'_1] at h; omega
    have e : (List.replicate K.S 0).getD s 0 = 0 := by simp [List.getD_eq_getElem?_getD, hs]
    unfold FreeH
    rw [e]
    refine ⟨?_, by omega⟩
    show (memX K.C K.D K.B K.N (K.S - 1)).getD (K.hd s) 0 = 0
    rw [memX_get _ _ _ _ _ _ (K.hd_lt hs)]
    unfold memK
    have w := wat_header K.C K.D K.B s
    rw [if_neg (by have := K.hd_4 s; omega)]
    have w' : wat K.C K.D K.B (K.hd s) = (8, s, 0) := w
    rw [w', if_neg (by simp)]

/-- How many of the first makers have a slot. -/
def cntH (R : Nat → Mr) (s : Nat) : Nat → Nat
  | 0 => 0
  | k + 1 => cntH R s k + (if s ∈ (R k).has then 1 else 0)
theorem cntH_zero {R : Nat → Mr} {s : Nat} : ∀ k, (∀ i, i < k → s ∉ (R i).has) → cntH R s k = 0
  | 0, _ => rfl
  | k + 1, h => by
    unfold cntH
    rw [cntH_zero k (fun i hi => h i (by omega)), if_neg (h k (by omega))]
theorem Inv.cnt {K : Cf} {n : Nat} {X : List Nat} {tag : Nat} {F md : List Nat} {R : Nat → Mr} (I : Inv K n X tag F md R) (s : Nat) : ∀ k, k ≤ n → cntH R s k ≤ 1 ∧ (1 ≤ cntH R s k → ∃ i, i < k ∧ s ∈ (R i).has)
  | 0, _ => ⟨by unfold cntH; omega, fun h => by unfold cntH at h; omega⟩
  | k + 1, hk => by
    obtain ⟨h1, h2⟩ := I.cnt s k (by omega)
    unfold cntH
    by_cases hm : s ∈ (R k).has
    · rw [if_pos hm]
      have hz : cntH R s k = 0 := cntH_zero k fun i hi hs => I.dis i (by omega) k (by omega) (by omega) s (List.mem_append_left _ hs) (List.mem_append_left _ hm)
      exact ⟨by omega, fun _ => ⟨k, by omega, hm⟩⟩
    · rw [if_neg hm]
      refine ⟨by omega, fun h => ?_⟩
      obtain ⟨i, hi, hs⟩ := h2 (by omega)
      exact ⟨i, by omega, hs⟩
theorem kd_word {K M : Nat} (g : Bool) {A N S : Nat} (h : Hr K M A N S) : kdW (wordOf K M g.toNat A N S) = K := by
  unfold kdW
  rw [Hh.okW_word g h, if_pos rfl]
  exact (Hh.word_parts g h).1
/-- What the law looks for in the end. -/
theorem Inv.last {K : Cf} (hg : K.g ≤ 40) {n : Nat} {X : List Nat} {tag : Nat} {F md : List Nat} {R : Nat → Mr} (I : Inv K n X tag F md R) (s k : Nat) (hk : k ≤ n) :
    (if s ∈ F ∨ kdW (X.getD (K.hd s) 0) = 4 then 1 else 0) + cntH R s k ≤ 1 ∧ ((if s ∈ F ∨ kdW (X.getD (K.hd s) 0) = 4 then 1 else 0) + cntH R s k = 1 → kdW (X.getD (K.hd s) 0) = 0 → genW (X.getD (K.hd s) 0) = md.getD s 0) := by
  obtain ⟨h1, h2⟩ := I.cnt s k hk
  have hlive : 1 ≤ cntH R s k → s ∉ F ∧ (kdW (X.getD (K.hd s) 0) = 1 ∨ kdW (X.getD (K.hd s) 0) = 2) := fun h => by
    obtain ⟨i, hi, hs⟩ := h2 h
    refine ⟨I.nf i (by omega) s (List.mem_append_left _ hs), ?_⟩
    obtain ⟨k, m, a, b1, b2, b3, _⟩ := (I.ok i (by omega)).has s hs
    rw [b3, kd_word false b2]; exact b1
  by_cases hF : s ∈ F
  · have hf := I.free s hF
    have hz : cntH R s k = 0 := by
      rcases Nat.eq_zero_or_pos (cntH R s k) with h | h
      · exact h
      · exact absurd hF (hlive h).1
    rw [if_pos (.inl hF), hz]
    exact ⟨by omega, fun _ _ => free_gen hf hg⟩
  · by_cases h4 : kdW (X.getD (K.hd s) 0) = 4
    · have hz : cntH R s k = 0 := by
        rcases Nat.eq_zero_or_pos (cntH R s k) with h | h
        · exact h
        · have := (hlive h).2; omega
      rw [if_pos (.inr h4), hz]
      exact ⟨by omega, fun _ h0 => by omega⟩
    · rw [if_neg (fun h => h.elim hF h4)]
      exact ⟨by omega, fun h h0 => by have := (hlive (by omega)).2; omega⟩
end Go.Proofs.YtjbjijkkmlehgaaDoor
/- The law's small helpers: a word's place, and whether two lists meet. -/
namespace Go.Proofs.YtjbjijkkmlehgaaDoor
open Go.RowKit
open Hh (WT wordOf okW Hr)
set_option linter.unusedVariables false

/-- The law's world lies in block B: the config, the memory, the row of counts. -/
def WdAt (w : World) (K : Cf) (B M D : Nat) : Prop :=
  w.heap[B]? = some (.cells #[.int .i64 (K.S : Nat), .int .i64 K.a, .int .i64 (K.C : Nat), .int .i64 (K.D : Nat), .int .i64 K.g, .int .i64 K.k, .pointer (some ⟨M, 0, none⟩), .slice (some ⟨D, 0, none⟩) K.S K.S] 31)
theorem WdAt.cells {w : World} {K : Cf} {B M D : Nat} (h : WdAt w K B M D) : (w.cell? ⟨B, 0, none⟩ = some (.int .i64 (K.S : Nat)) ∧ w.cell? ⟨B, 1, none⟩ = some (.int .i64 K.a) ∧ w.cell? ⟨B, 2, none⟩ = some (.int .i64 (K.C : Nat)) ∧ w.cell? ⟨B, 3, none⟩ = some (.int .i64 (K.D : Nat)) ∧ w.cell? ⟨B, 4, none⟩ = some (.int .i64 K.g) ∧ w.cell? ⟨B, 5, none⟩ = some (.int .i64 K.k)) ∧ w.cell? ⟨B, 6, none⟩ = some (.pointer (some ⟨M, 0, none⟩)) ∧ w.cell? ⟨B, 7, none⟩ = some (.slice (some ⟨D, 0, none⟩) K.S K.S) := by
  have h' : w.heap[B]? = _ := h
  refine ⟨⟨?_, ?_, ?_, ?_, ?_, ?_⟩, ?_, ?_⟩ <;> simp [World.cell?, h']
theorem WdAt.chg {l : List Nat} {w w' : World} {K : Cf} {B M D : Nat} (h : WdAt w K B M D) (c : Chg l w w') (hn : B ∉ l) : WdAt w' K B M D := c.at h hn
theorem WdAt.below {w w' : World} {K : Cf} {B M D : Nat} (h : WdAt w K B M D) (b : Below w.heap.size w w') : WdAt w' K B M D := h.chg (l := []) (Chg.of_below b) (by simp)
theorem wat16_hd {w : World} {K : Cf} (hK : K.Ok) {B M D s : Nat} (h : WdAt w K B M D) (hs : s < K.S) :
    Calls Tryd.prog 16 #[.pointer (some ⟨B, 0, none⟩), .string ⟨#[104, 101, 97, 100, 101, 114]⟩, .int .i64 (s : Nat), .int .i64 0] w fun e w' => e = .returned (.int .i64 (K.hd s : Nat)) ∧ Below w.heap.size w w' := by
  have c23 := at_yes hK.r hK.b hK.b8 8 s 0 (K.hd s) (by omega) (K.hd_lt hs) (wat_header K.C K.D K.B s)
  obtain ⟨⟨l0, l1, l2, l3, l4, l5⟩, _, _⟩ := h.cells
  go_enter Tryd.func16, Tryd.ntmps16
  go_wp2_with (go_at_call 23; refine (c23 _).mono ?_; rintro e w1 ⟨rfl, hb⟩)
  go_ret
  exact ⟨rfl, hb⟩
theorem wat16_bd {w : World} {K : Cf} (hK : K.Ok) {B M D s i : Nat} (h : WdAt w K B M D) (hs : s < K.S) (hi : i < K.B) :
    Calls Tryd.prog 16 #[.pointer (some ⟨B, 0, none⟩), .string ⟨#[98, 111, 100, 121]⟩, .int .i64 (s : Nat), .int .i64 (i : Nat)] w fun e w' => e = .returned (.int .i64 (K.bd s i : Nat)) ∧ Below w.heap.size w w' := by
  have hw : wat K.C K.D K.B (K.bd s i) = (10, s, i) := by
    have e : K.bd s i = 4 + K.C + K.C * K.D + 2 * K.C + s * (2 + K.B) + (i + 2) := by unfold Cf.bd Cf.hd; omega
    rw [e]; exact wat_body K.C K.D K.B s i hi
  have c23 := at_yes hK.r hK.b hK.b8 10 s i (K.bd s i) (by omega) (K.bd_lt hs hi) hw
  obtain ⟨⟨l0, l1, l2, l3, l4, l5⟩, _, _⟩ := h.cells
  go_enter Tryd.func16, Tryd.ntmps16
  go_wp2_with (go_at_call 23; refine (c23 _).mono ?_; rintro e w1 ⟨rfl, hb⟩)
  go_ret
  exact ⟨rfl, hb⟩

/-! Two lists that have nothing in common. -/
set_option maxHeartbeats 1000000 in
theorem meet_no {v u : Value} {xs ys : List Nat} {w : World} (h : IsI w v xs) (hu : IsI w u ys) (hl : xs.length ≤ 65536) (hl2 : ys.length ≤ 65536) (hd : ∀ x ∈ xs, x ∉ ys) :
    Calls Tryd.prog 12 #[v, u] w fun e w' => e = .returned (.bool false) ∧ w = w' := by
  obtain ⟨a1, p1, rfl, _, f1⟩ := h.form
  have c17 : Hid (∀ x : Nat, Calls Tryd.prog 17 #[u, .int .i64 (x : Nat)] w fun e w' => e = .returned (.bool (decide (x ∈ ys))) ∧ w = w') := fun x => has_any hu hl2 x
  have hb : Hid (∀ k, k < xs.length → decide (xs.getD k 0 ∈ ys) = false) := fun k hk => by
    rw [decide_eq_false]
    exact hd _ (by simp [hk])
  generalize hn : xs.length = n at *
  have H1 : Hid (∀ k, k < n → ∃ g off, a1 = some ⟨g, off, none⟩ ∧ w.cell? ⟨g, off + k, none⟩ = some (.int .i64 (xs.getD k 0 : Nat))) := fun k hk => by
    obtain ⟨g, off, rfl⟩ := f1 (by rintro rfl; simp at hn; omega)
    exact ⟨g, off, rfl, h.cell k (by omega)⟩
  clear h f1 hn hu hl2 hd
  go_enter Tryd.func12, Tryd.ntmps12
  go_wp2
  go_loop [5, 6, 7, 8, 9, 10, 11, 12, 13, 14, 15, 16, 17] (fun i u6 u7 u8 u9 u10 u11 u12 u13 u14 u15 u16 u17 => ∃ k : Nat, k ≤ n ∧ i = .int .i64 k) (fun i u6 u7 u8 u9 u10 u11 u12 u13 u14 u15 u16 u17 => n - (intOf i).toNat)
  case atStart => exact ⟨0, Nat.zero_le _, rfl⟩
  case round =>
    obtain ⟨k, hk, rfl⟩ := hrel
    by_cases hkl : k < n
    · obtain ⟨g1, o1, rfl, q1⟩ := H1.out k hkl
      have hf := hb.out k hkl
      have c := c17.out (xs.getD k 0)
      rw [hf] at c
      clear hf
      generalize xs.getD k 0 = v at *
      go_wp2_with (go_at_call 17; refine c.mono ?_; rintro e w1 ⟨rfl, rfl⟩)
      go_round
      case rel => exact ⟨k + 1, by omega, by go_num⟩
      case measure => simp [intOf]; omega
    · have hkn : k = n := by omega
      subst hkn
      go_wp2
      go_ret
      exact ⟨rfl, rfl⟩
end Go.Proofs.YtjbjijkkmlehgaaDoor
/- A maker in the heap. -/
namespace Go.Proofs.YtjbjijkkmlehgaaDoor
open Go.RowKit
open Hh (WT wordOf okW Hr)
set_option linter.unusedVariables false

/-- The row of makers in block L. -/
def RowM (w : World) (L : Nat) (cur : Array Value) : Prop := w.heap[L]? = some (.cells cur 41 (0, 0))
theorem RowM.cell {w : World} {L : Nat} {cur : Array Value} (h : RowM w L cur) {i : Nat} {v : Value} (hc : cur[i]? = some v) : w.cell? ⟨L, i, none⟩ = some v := by
  have h' : w.heap[L]? = _ := h
  simp [World.cell?, h', hc]
theorem RowM.free {w : World} {L : Nat} {cur : Array Value} (h : RowM w L cur) (i : Nat) : w.frozen? ⟨L, i, none⟩ = false := by
  have h' : w.heap[L]? = _ := h
  simp [World.frozen?, h']
theorem RowM.lt {w : World} {L : Nat} {cur : Array Value} (h : RowM w L cur) : L < w.heap.size := lt_of_block h
theorem RowM.set {w : World} {L : Nat} {cur : Array Value} (h : RowM w L cur) (i : Nat) (v : Value) : RowM (w.setCell ⟨L, i, none⟩ v) L (cur.setIfInBounds i v) := Mm.heap_setCell_at h v
theorem set_ne {cur : Array Value} {i j : Nat} {v : Value} (h : i ≠ j) : (cur.setIfInBounds i v)[j]? = cur[j]? := Array.getElem?_setIfInBounds_ne h
theorem set_eq {cur : Array Value} {i : Nat} {u v : Value} (h : cur[i]? = some u) : (cur.setIfInBounds i v)[i]? = some v := by
  have hi : i < cur.size := (Array.getElem?_eq_some_iff.1 h).1
  simp [hi]
theorem IsI.set {w : World} {v : Value} {xs : List Nat} (h : IsI w v xs) {L i : Nat} (hn : ∀ r, v.ownBlock = some r → r ≠ L) (u : Value) : IsI (w.setCell ⟨L, i, none⟩ u) v xs :=
  h.kept fun g hg => Below.heap_setCell _ _ _ _ (hn g hg)
theorem RowM.chg {l : List Nat} {w w' : World} {L : Nat} {cur : Array Value} (h : RowM w L cur) (c : Chg l w w') (hn : L ∉ l) : RowM w' L cur := c.at h hn
theorem RowM.below {w w' : World} {L : Nat} {cur : Array Value} (h : RowM w L cur) (b : Below w.heap.size w w') : RowM w' L cur := h.chg (l := []) (Chg.of_below b) (by simp)
/-- Work, as the law has it. -/
structure Wo where
  free : Bool
  rc : Bool
  ar : Nat
  e : Nat
  wd : Nat
set_option maxRecDepth 100000 in
set_option maxHeartbeats 4000000 in
/-- A Make that was full: the maker is idle again. -/
theorem made_full {w : World} {K : Cf} {B L P o : Nat} {cur : Array Value} {m : Mk} (row : RowM w L cur) (hc : cur[o + 7]? = some (.pointer (some ⟨P, 0, none⟩))) (hm : MkIn w K P m) (hf : m.full = true) (hs : m.sl = -1) :
    Calls Tryd.prog 42 #[.pointer (some ⟨L, o, none⟩), .pointer (some ⟨B, 0, none⟩)] w fun e w' => e = .returned (.bool true) ∧ w' = w.setCell ⟨L, o + 7, none⟩ (.pointer none) := by
  have q := row.cell hc
  have qf := row.free (o + 7)
  obtain ⟨m0, m1⟩ := hm.cells
  rw [hs] at m0
  rw [hf] at m1
  clear row hc hm hf hs
  go_enter Tryd.func42, Tryd.ntmps42
  go_wp2
  go_ret
  exact ⟨rfl, rfl⟩
end Go.Proofs.YtjbjijkkmlehgaaDoor
