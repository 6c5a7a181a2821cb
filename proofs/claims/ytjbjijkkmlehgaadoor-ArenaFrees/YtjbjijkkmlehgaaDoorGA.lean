/- Slices of ints in blocks of the call's own, at whatever offset; append onto one. -/
import Derived.Test.YtjbjijkkmlehgaaDoorAIn
import Derived.ArgAppend
import Derived.Maps.AppendAt
import Derived.Laws.AppendOwnNone
import Derived.Test.YtjbjijkkmlehgaaDoorAAwake
namespace Go.Proofs.YtjbjijkkmlehgaaDoor
open Go.RowKit

def ints (xs : List Nat) : List Value := xs.map fun (x : Nat) => Value.int .i64 (x : Nat)
theorem ints_len (xs : List Nat) : (ints xs).length = xs.length := by simp [ints]
theorem ints_get (xs : List Nat) (i : Nat) (h : i < xs.length) : (ints xs)[i]? = some (.int .i64 (xs.getD i 0 : Nat)) := by simp [ints, h]
theorem ints_one (xs : List Nat) : ∀ u ∈ ints xs, u.oneCell' = true := by
  intro u hu
  obtain ⟨x, _, rfl⟩ := List.mem_map.1 hu
  rfl

/-- A slice of these ints, its block the call's own. -/
def IsI (w : World) (v : Value) (xs : List Nat) : Prop :=
  (v = .slice none 0 0 ∧ xs = []) ∨
  ∃ g off cap cur, v = .slice (some ⟨g, off, none⟩) xs.length cap ∧ w.heap[g]? = some (.cells cur 3 (0, 0)) ∧ xs.length ≤ cap ∧ cap ≤ maxLen ∧ off + cap ≤ cur.size ∧ ∀ i, i < xs.length → cur[off + i]? = some (.int .i64 (xs.getD i 0 : Nat))

theorem IsI.nil (w : World) : IsI w (.slice none 0 0) [] := .inl ⟨rfl, rfl⟩
theorem IsI.lt {w : World} {v : Value} {xs : List Nat} (h : IsI w v xs) {g : Nat} (hg : v.ownBlock = some g) : g < w.heap.size := by
  rcases h with ⟨rfl, _⟩ | ⟨g', off, cap, cur, rfl, hh, _⟩
  · cases hg
  · obtain rfl : g' = g := by simpa [Value.ownBlock] using hg
    exact lt_of_block hh
theorem IsI.kept {w w' : World} {v : Value} {xs : List Nat} (h : IsI w v xs) (hb : ∀ g, v.ownBlock = some g → w'.heap[g]? = w.heap[g]?) : IsI w' v xs := by
  rcases h with h | ⟨g, off, cap, cur, rfl, hh, rest⟩
  · exact .inl h
  · exact .inr ⟨g, off, cap, cur, rfl, (hb g rfl).trans hh, rest⟩
theorem IsI.below {w w' : World} {v : Value} {xs : List Nat} (h : IsI w v xs) (b : Below w.heap.size w w') : IsI w' v xs := h.kept fun g hg => b.block g (h.lt hg)
theorem IsI.chg {L : List Nat} {w w' : World} {v : Value} {xs : List Nat} (h : IsI w v xs) (b : Chg L w w') (hn : ∀ g, v.ownBlock = some g → g ∉ L) : IsI w' v xs := h.kept fun g hg => b.block g (h.lt hg) (hn g hg)

/-- The slice's form, for a walk. -/
theorem IsI.form {w : World} {v : Value} {xs : List Nat} (h : IsI w v xs) : ∃ ad cap, v = .slice ad xs.length cap ∧ xs.length ≤ cap ∧ (xs ≠ [] → ∃ g off, ad = some ⟨g, off, none⟩) := by
  rcases h with ⟨rfl, rfl⟩ | ⟨g, off, cap, cur, rfl, _, hc, _⟩
  · exact ⟨none, 0, rfl, Nat.le_refl _, fun h => absurd rfl h⟩
  · exact ⟨_, _, rfl, hc, fun _ => ⟨g, off, rfl⟩⟩
theorem IsI.cell {w : World} {g off n cap : Nat} {xs : List Nat} (h : IsI w (.slice (some ⟨g, off, none⟩) n cap) xs) (i : Nat) (hi : i < xs.length) : w.cell? ⟨g, off + i, none⟩ = some (.int .i64 (xs.getD i 0 : Nat)) := by
  rcases h with ⟨h0, _⟩ | ⟨g', off', cap', cur, h1, hh, _, _, _, hc⟩
  · cases h0
  · simp only [Value.slice.injEq, Option.some.injEq, Addr.mk.injEq] at h1
    obtain ⟨⟨rfl, rfl, -⟩, -, -⟩ := h1
    simp only [World.cell?, hh]
    exact hc i hi
theorem IsI.len {w : World} {ad : Option Addr} {n cap : Nat} {xs : List Nat} (h : IsI w (.slice ad n cap) xs) : n = xs.length ∧ n ≤ cap ∧ cap ≤ maxLen := by
  rcases h with ⟨h0, rfl⟩ | ⟨g', off', cap', cur, h1, hh, h2, h3, _⟩
  · simp only [Value.slice.injEq] at h0; obtain ⟨_, rfl, rfl⟩ := h0; exact ⟨rfl, Nat.le_refl _, Nat.zero_le _⟩
  · simp only [Value.slice.injEq] at h1; obtain ⟨_, rfl, rfl⟩ := h1; exact ⟨rfl, h2, h3⟩

theorem IsI.tail {w : World} {g off n cap : Nat} {x : Nat} {xs : List Nat} (h : IsI w (.slice (some ⟨g, off, none⟩) n cap) (x :: xs)) : IsI w (.slice (some ⟨g, off + 1, none⟩) xs.length (cap - 1)) xs := by
  rcases h with ⟨h0, _⟩ | ⟨g', off', cap', cur, h1, hh, h2, h3, h4, hc⟩
  · cases h0
  · simp only [Value.slice.injEq, Option.some.injEq, Addr.mk.injEq] at h1
    obtain ⟨⟨rfl, rfl, -⟩, rfl, rfl⟩ := h1
    simp only [List.length_cons] at h2 hc
    refine .inr ⟨g, off + 1, cap - 1, cur, rfl, hh, by omega, by omega, by omega, fun i hi => ?_⟩
    have := hc (i + 1) (by omega)
    rw [show off + 1 + i = off + (i + 1) by omega, this]
    simp

/-- All but the first element; the address stays where there is no room left. -/
theorem IsI.tails {w : World} {g off n cap : Nat} {x : Nat} {xs : List Nat} (h : IsI w (.slice (some ⟨g, off, none⟩) n cap) (x :: xs)) : IsI w (.slice (if cap = 1 then some ⟨g, off, none⟩ else some ⟨g, off + 1, none⟩) xs.length (cap - 1)) xs := by
  by_cases hc : cap = 1
  · rw [if_pos hc]
    have hl := h.len
    simp only [List.length_cons] at hl
    have h0 : xs = [] := List.eq_nil_of_length_eq_zero (by omega)
    subst h0 hc
    rcases h with ⟨h0, _⟩ | ⟨g', off', cap', cur, h1, hh, h2, h3, h4, _⟩
    · cases h0
    · simp only [Value.slice.injEq, Option.some.injEq, Addr.mk.injEq] at h1
      obtain ⟨⟨rfl, rfl, -⟩, rfl, rfl⟩ := h1
      exact .inr ⟨g, off, 0, cur, rfl, hh, Nat.le_refl _, Nat.zero_le _, by omega, fun i hi => by simp at hi⟩
  · rw [if_neg hc]
    exact h.tail

theorem IsI.of_own {w : World} {base : Nat} {v : Value} {n : Nat} {xs : List Nat} {ys : List Value} (h : w.ownsRow base 3 1 v n ys) (hy : ys = ints xs) : IsI w v xs ∧ ∀ g, v.ownBlock = some g → base ≤ g := by
  subst hy
  have hn : xs.length = n := by have := h.1; rw [ints_len] at this; omega
  rcases h.2 with ⟨rfl, rfl⟩ | ⟨g, cap, cur, rfl, hb, hh, h2, h3, h4, h5⟩
  · exact ⟨.inl ⟨rfl, List.eq_nil_of_length_eq_zero hn⟩, fun g hg => by cases hg⟩
  · refine ⟨.inr ⟨g, 0, cap, cur, by rw [hn], hh, by omega, h3, by omega, fun i hi => ?_⟩, fun g' hg' => by obtain rfl : g = g' := by simpa [Value.ownBlock] using hg'
                                                                                                            exact hb⟩
    have e := ints_get xs i hi
    rw [← h5, Nat.mul_one, List.getElem?_take, if_pos (by omega)] at e
    simpa using e

/-- A row behind some stores. -/
theorem heap_setCells {g : Nat} {e : TypeId} {fz : Nat × Nat} : ∀ (vs : List Value) (o : Nat) (w : World) (cur : Array Value), w.heap[g]? = some (.cells cur e fz) → o + vs.length ≤ cur.size →
    ∃ cur', (w.setCells g o vs).heap[g]? = some (.cells cur' e fz) ∧ cur'.size = cur.size ∧ (∀ j, j < vs.length → cur'[o + j]? = vs[j]?) ∧ (∀ j, j < o → cur'[j]? = cur[j]?) ∧ w.grownBy (w.setCells g o vs) (some g)
  | [], o, w, cur, h, _ => ⟨cur, h, rfl, fun j hj => by simp at hj, fun _ _ => rfl, ⟨rfl, rfl, rfl, Nat.le_refl _, fun _ _ _ => rfl⟩⟩
  | v :: vs, o, w, cur, h, hl => by
    simp only [List.length_cons] at hl
    have h1 := Mm.heap_setCell_at (o := o) h v
    obtain ⟨cur', h2, h3, h4, h5, h6⟩ := heap_setCells vs (o + 1) _ _ h1 (by simp; omega)
    refine ⟨cur', h2, by simpa using h3, ?_, ?_, ?_⟩
    · intro j hj
      cases j with
      | zero => rw [Nat.add_zero, h5 o (by omega)]; simp [show o < cur.size by omega]
      | succ j =>
        have := h4 j (by simpa using hj)
        rw [show o + (j + 1) = o + 1 + j by omega, this]
        simp
    · intro j hj
      rw [h5 j (by omega)]
      rw [Array.getElem?_setIfInBounds_ne (by omega)]
    · exact ⟨h6.os, h6.tape, h6.output, Nat.le_trans (by simp [World.setCell]) h6.size, fun k hk hne => (h6.block k (by simpa [World.setCell] using hk) hne).trans (Below.heap_setCell _ _ _ _ (by intro e; exact hne (by simpa using e)))⟩

theorem Tryd.info3 : (Tryd.prog.info? 3).map (fun i => (i.zero, i.size, i.bytes)) = some (some (.int .i64 0), 1, 8) := by kernel_rfl

/-- Append: the slice is then of both lists, in the row that it had, or in a new one. -/
theorem run_append_ints {w : World} {v : Value} {xs ys : List Nat} (hI : IsI w v xs) (ty : TypeId) (ad : Addr) (c : Nat) (hy : ys ≠ []) (hys : ∀ j u, (ints ys)[j]? = some u → w.cell? (ad.add j) = some u) (hl : xs.length + ys.length ≤ 1000000) :
    ∃ v' w', (Builtin.append_ #[25, 25] ty #[v, .slice (some ad) ys.length c]).run Tryd.prog w = .ok v' w' ∧ IsI w' v' (xs ++ ys) ∧ w.grownBy w' v.ownBlock ∧ (v'.ownBlock = v.ownBlock ∨ ∃ g, v'.ownBlock = some g ∧ w.heap.size ≤ g) := by
  obtain ⟨i0, hi, hz0, hz1, hz2⟩ := info_parts Tryd.info3
  have hy1 : 0 < ys.length := List.length_pos_iff.2 hy
  rcases hI with ⟨rfl, rfl⟩ | ⟨g, off, cap, cur, rfl, hh, h2, h3, h4, hc⟩
  · obtain ⟨v', w', hr, h2, h3, _, _⟩ := run_append_own_at (P := Tryd.prog) w w.heap.size 25 ty 3 i0 (.int .i64 0) 1 8 Tryd.underlying25 hi hz0 hz1 hz2 rfl (by decide) (.slice none 0 0) 0 [] (World.ownsRow_nil _ _ _ _) ad ys.length c (ints ys) (by rw [ints_len]; omega) hys (ints_one _) (by unfold maxLen; simp at hl; omega) (by simp at hl; omega) (Nat.le_refl _)
    obtain ⟨q1, q2⟩ := IsI.of_own h2 (xs := [] ++ ys) (by simp)
    refine ⟨v', w', hr, q1, h3, .inr ?_⟩
    rcases h2.2 with ⟨_, h0⟩ | ⟨g, cap, cur, rfl, hb, _⟩
    · omega
    · exact ⟨g, rfl, hb⟩
  · by_cases hroom : xs.length + ys.length ≤ cap
    · have e1 : xs.length * i0.size = xs.length := by rw [hz1]; omega
      have hcell : ∀ j, j < (ints ys).length → w.cell? ⟨g, off + xs.length * i0.size + j, none⟩ = cur[off + xs.length + j]? := fun j _ => by rw [e1]; simp [World.cell?, hh]
      have hr := run_append_room_cells (P := Tryd.prog) w 25 ty 3 i0 Tryd.underlying25 hi g off xs.length cap ad ys.length c (ints ys) (by rw [ints_len, hz1]; omega) hys (ints_one _) hroom
        (fun j hj => by rw [hcell j hj]; rw [ints_len] at hj; rw [Array.getElem?_eq_getElem (by omega)]; rfl) (fun j _ => by simp [World.frozen?, hh])
      rw [e1] at hr
      obtain ⟨cur', k1, k2, k3, k4, k5⟩ := heap_setCells (ints ys) (off + xs.length) w cur hh (by rw [ints_len]; omega)
      refine ⟨_, _, hr, .inr ⟨g, off, cap, cur', by rw [List.length_append], k1, by rw [List.length_append]; exact hroom, h3, by omega, fun i hi => ?_⟩, k5, .inl rfl⟩
      rw [List.length_append] at hi
      by_cases hx : i < xs.length
      · rw [k4 _ (by omega), hc i hx]
        simp [List.getElem?_append_left hx]
      · have := k3 (i - xs.length) (by rw [ints_len]; omega)
        rw [show off + i = off + xs.length + (i - xs.length) by omega, this, ints_get ys _ (by omega)]
        simp [List.getElem?_append_right (show xs.length ≤ i by omega)]
    · have holds : ∀ j u, (ints xs)[j]? = some u → w.cell? ((⟨g, off, none⟩ : Addr).add j) = some u := by
        intro j u hj
        have hjl : j < xs.length := by
          have := (List.getElem?_eq_some_iff.1 hj).1
          rwa [ints_len] at this
        rw [Addr.add_lit]
        rw [ints_get xs j hjl] at hj
        simp only [World.cell?, hh, hc j hjl]
        exact hj
      obtain ⟨v', w', hr, h5, h6⟩ := run_append_arg_grows (P := Tryd.prog) w 25 ty 3 i0 (.int .i64 0) 1 8 Tryd.underlying25 hi hz0 hz1 hz2 rfl (by decide) ⟨g, off, none⟩ xs.length cap (ints xs) (by rw [ints_len]; omega) holds ad ys.length c (ints ys) (by rw [ints_len]; omega) hys (by omega) (by unfold maxLen; omega) (by omega)
      obtain ⟨q1, q2⟩ := IsI.of_own h5 (xs := xs ++ ys) (by simp [ints])
      refine ⟨v', w', hr, q1, ⟨h6.os, h6.tape, h6.output, h6.size, fun k hk _ => h6.block k hk (by simp)⟩, .inr ?_⟩
      rcases h5.2 with ⟨_, h0⟩ | ⟨g', cap', cur', rfl, hb, _⟩
      · omega
      · exact ⟨g', rfl, hb⟩

/-- The same for the walk. -/
theorem wpList_append_ints {w : World} {ops : Array Oper} {rest : List Oper} {o : Oper} {a : Act} {Q : Exit → Act → World → Prop} (hgd : o.guard = none) (s x : Operand)
    (ho : o.op = .call { callee := .builtin .append, args := #[s, x], argTypes := #[25, 25] })
    (v : Value) (xs ys : List Nat) (hs : a.eval s = v) (hI : IsI w v xs) (ad : Addr) (n c : Nat) (hx : a.eval x = .slice (some ad) n c) (hn : n = ys.length) (hy : ys ≠ [])
    (hys : ∀ j u, (ints ys)[j]? = some u → w.cell? (ad.add j) = some u) (hl : xs.length + ys.length ≤ 1000000)
    (h : ∀ v' w', IsI w' v' (xs ++ ys) → w.grownBy w' v.ownBlock → (v'.ownBlock = v.ownBlock ∨ ∃ g, v'.ownBlock = some g ∧ w.heap.size ≤ g) → wpList Tryd.prog ops Q rest (a.put o.dst v') w') : wpList Tryd.prog ops Q (o :: rest) a w := by
  subst hn
  refine wpList_plain hgd fun K hK => ?_
  obtain ⟨v', w', hr, h2, h3, h4⟩ := run_append_ints hI o.type ad c hy hys hl
  unfold Oper.wp execOp
  simp only [ho, resolve, invoke, builtin, Sem.run_bind, Sem.run_pure, Result.andThen_ok, List.map_toArray, List.map_cons, List.map_nil, hs, hx, hr]
  exact hK _ _ (h v' w' h2 h3 h4)

theorem one_new (w : World) (y : Nat) (t : TypeId) : ∀ j u, (ints [y])[j]? = some u → (w.alloc (.cells #[.int .i64 (y : Nat)] t)).cell? ((⟨w.heap.size, 0, none⟩ : Addr).add j) = some u := cell_one_new w _ t
end Go.Proofs.YtjbjijkkmlehgaaDoor
/- The contracts of the reference's List and of stack's: the slots of the free list of any words. -/
namespace Go.Proofs.YtjbjijkkmlehgaaDoor
open Go.RowKit

/-- The free list from a number on, no more slots than n. -/
def walkL (K : Cf) (X : List Nat) : Nat → Nat → List Nat
  | 0, _ => []
  | n + 1, x => if 1 ≤ x ∧ x ≤ K.S then (x - 1) :: walkL K X n (X.getD (K.lk (x - 1)) 0) else []
def lst (K : Cf) (X : List Nat) : List Nat := walkL K X K.S (X.getD 3 0 % 65536)

theorem walkL_len (K : Cf) (X : List Nat) : ∀ n x, (walkL K X n x).length ≤ n
  | 0, _ => by simp [walkL]
  | n + 1, x => by
    unfold walkL
    split
    · exact Nat.succ_le_succ (walkL_len K X n _)
    · simp
theorem lst_len (K : Cf) (X : List Nat) : (lst K X).length ≤ K.S := walkL_len K X _ _

/-- Words that a slice has. -/
def RdW (w : World) (b off : Nat) (X : List Nat) : Prop := b < w.heap.size ∧ ∀ i, i < X.length → w.cell? ⟨b, off + i, none⟩ = some (.int .u64 (X.getD i 0 : Nat))
theorem RdW.below {w w' : World} {b off : Nat} {X : List Nat} (h : RdW w b off X) (k : Below w.heap.size w w') : RdW w' b off X :=
  ⟨Nat.lt_of_lt_of_le h.1 k.size, fun i hi => (k.cell (p := ⟨b, off + i, none⟩) h.1).trans (h.2 i hi)⟩
theorem RdW.of_words {w : World} {R : Nat} {X : List Nat} (h : Mm.IsWords w R X) : RdW w R 0 X := ⟨lt_of_block (show w.heap[R]? = _ from h), fun i hi => by rw [Nat.zero_add]; exact Mm.words_at h i hi⟩

/-- All that is known of the world while the list is laid. -/
structure Ls (w wr : World) (K : Cf) (X : List Nat) (v : Value) (xs : List Nat) (x : Nat) : Prop where
  own : IsI wr v xs
  base : ∀ g, v.ownBlock = some g → w.heap.size + 1 ≤ g
  cfg : IsCfg wr w.heap.size K.S K.a K.C K.D K.g K.k
  bel : Below w.heap.size w wr
  eq : lst K X = xs ++ walkL K X (K.S - xs.length) x
  lt : x < 18446744073709551616
  le : xs.length ≤ K.S

theorem Ls.below {w wr w1 : World} {K : Cf} {X : List Nat} {v : Value} {xs : List Nat} {x : Nat} (h : Ls w wr K X v xs x) (b : Below wr.heap.size wr w1) : Ls w w1 K X v xs x :=
  ⟨h.own.below b, h.base, h.cfg.below b, h.bel.trans (b.mono h.bel.size), h.eq, h.lt, h.le⟩

theorem Ls.step {w wr w1 : World} {K : Cf} {X : List Nat} {v v' : Value} {xs : List Nat} {s : Nat} (h : Ls w wr K X v xs (s + 1)) (hs : s < K.S) (hl : xs.length < K.S) (o : Obj)
    (hI : IsI w1 v' (xs ++ [s])) (hg : (wr.alloc o).grownBy w1 v.ownBlock) (hp : v'.ownBlock = v.ownBlock ∨ ∃ g, v'.ownBlock = some g ∧ wr.heap.size + 1 ≤ g) (hX : ∀ i, X.getD i 0 < 18446744073709551616) : Ls w w1 K X v' (xs ++ [s]) (X.getD (K.lk s) 0) := by
  have hb : ∀ i, i ≤ w.heap.size → w1.heap[i]? = wr.heap[i]? := fun i hi => by
    have hlt := h.cfg.lt
    rw [hg.block i (by simp; omega) (fun e => by have := h.base i e.symm; omega)]
    exact (alloc_below wr o).block i (by omega)
  refine ⟨hI, ?_, ?_, ?_, ?_, hX _, by simp; omega⟩
  · intro g hgv
    rcases hp with e | ⟨g', e, hg'⟩
    · exact h.base g (e ▸ hgv)
    · rw [e] at hgv
      have hlt := h.cfg.lt
      simp at hgv
      omega
  · show w1.heap[w.heap.size]? = _
    rw [hb _ (Nat.le_refl _)]; exact h.cfg
  · exact ⟨hg.os.trans h.bel.os, hg.tape.trans h.bel.tape, hg.output.trans h.bel.output, Nat.le_trans h.bel.size (Nat.le_trans (by simp) hg.size), fun i hi => (hb i (by omega)).trans (h.bel.block i hi)⟩
  · rw [h.eq, show K.S - xs.length = (K.S - (xs ++ [s]).length) + 1 by simp; omega]
    conv => lhs; unfold walkL
    rw [if_pos ⟨by omega, by omega⟩, Nat.add_sub_cancel]
    simp

theorem Ls.done {w wr : World} {K : Cf} {X : List Nat} {v : Value} {xs : List Nat} {x : Nat} (h : Ls w wr K X v xs x) (he : ¬ (1 ≤ x ∧ x ≤ K.S) ∨ ¬ xs.length < K.S) : IsI wr v (lst K X) ∧ (∀ g, v.ownBlock = some g → w.heap.size ≤ g) ∧ Below w.heap.size w wr := by
  have e : lst K X = xs := by
    rw [h.eq]
    cases hn : K.S - xs.length with
    | zero => simp [walkL]
    | succ n =>
      unfold walkL
      rw [if_neg (by rcases he with he | he <;> omega)]
      simp
  rw [e]
  exact ⟨h.own, fun g hg => by have := h.base g hg; omega, h.bel⟩

theorem at_link {K : Cf} (hK : K.Ok) (s : Nat) (hs : s < K.S) (w : World) :
    Calls Tryd.prog 23 #[.agg K.cs, .agg #[.string ⟨#[108, 105, 110, 107]⟩, .int .i64 (s : Nat), .int .i64 0]] w fun e w' => e = .returned (.int .i64 (K.lk s : Nat)) ∧ Below w.heap.size w w' :=
  at_yes hK.r hK.b hK.b8 9 s 0 (K.lk s) (by omega) (hK.lk_lt hs) (wat_link K.C K.D K.B s) w

/-- A slice's length. -/
def slLen : Value → Nat
  | .slice _ n _ => n
  | _ => 0
theorem IsI.slLen {w : World} {v : Value} {xs : List Nat} (h : IsI w v xs) : slLen v = xs.length := by
  obtain ⟨ad, cap, rfl, _⟩ := h.form
  rfl

set_option maxHeartbeats 4000000 in
theorem rlist_yes {K : Cf} (hK : K.Ok) {w : World} {b off cap : Nat} {X : List Nat} (hR : RdW w b off X) (hX : X.length = K.N) (hlt : ∀ i, X.getD i 0 < 18446744073709551616) :
    Calls Tryd.prog 14 #[.agg K.cs, .slice (some ⟨b, off, none⟩) K.N cap] w fun e w' => ∃ v, e = .returned v ∧ IsI w' v (lst K X) ∧ (∀ g, v.ownBlock = some g → w.heap.size ≤ g) ∧ Below w.heap.size w w' := by
  have c1 := rright_any K.S K.a K.C K.D K.g K.k
  rw [hK.r] at c1
  have c2 := words_r K.C K.D K.S K.B K.a K.g K.k hK.c8 hK.d16 hK.s64 hK.b hK.b8
  rw [show nW K.C K.D K.B K.S = K.N from rfl] at c2
  have c3 := at_link hK
  have hN := hK.N_b
  have hS := hK.s64
  have hlk : ∀ s, s < K.S → K.lk s < K.N := fun s hs => hK.lk_lt hs
  have bel := alloc_below w (.cells #[.int .i64 (K.S : Nat), .int .i64 K.a, .int .i64 (K.C : Nat), .int .i64 (K.D : Nat), .int .i64 K.g, .int .i64 K.k] 23)
  have hh := cfg_new w K.S K.a K.C K.D K.g K.k
  go_enter Tryd.func14, Tryd.ntmps14
  go_upto_region 1 with fail
  generalize w.alloc (.cells #[.int .i64 (K.S : Nat), .int .i64 K.a, .int .i64 (K.C : Nat), .int .i64 (K.D : Nat), .int .i64 K.g, .int .i64 K.k] 23) = w0 at *
  obtain ⟨l0, l1, l2, l3, l4, l5⟩ := hh.cells
  go_upto_region 4 with (first
    | (go_at_call 28; refine (c1 _).mono ?_; rintro e w1 ⟨rfl, hb⟩; replace bel := seq_below bel hb; replace hh := hh.below hb; clear hb l0 l1 l2 l3 l4 l5; obtain ⟨l0, l1, l2, l3, l4, l5⟩ := hh.cells)
    | (go_at_call 31; refine (c2 _).mono ?_; rintro e w1 ⟨R, cap2, rfl, _, _, hb⟩; replace bel := seq_below bel hb; replace hh := hh.below hb; clear hb l0 l1 l2 l3 l4 l5; obtain ⟨l0, l1, l2, l3, l4, l5⟩ := hh.cells))
  have q3 := (hR.below bel).2 3 (by omega)
  have h3 := hlt 3
  have ls : Ls w w1 K X (.slice none 0 0) [] (X.getD 3 0 % 65536) := ⟨IsI.nil _, (fun g hg => by cases hg), hh, bel, rfl, by omega, Nat.zero_le _⟩
  clear bel hh c1 c2
  have hR' : ∀ w', Below w.heap.size w w' → RdW w' b off X := fun w' h => hR.below h
  clear hR
  go_wp2
  go_loopw [5, 6] (fun v x wr => ∃ (xs : List Nat) (y : Nat), x = .int .u64 (y : Nat) ∧ Ls w wr K X v xs y) (fun v _ _ => K.S - slLen v)
  case atStart => exact ⟨[], X.getD 3 0 % 65536, by go_num, ls⟩
  case round =>
    clear ls q3 h3 l0 l1 l2 l3 l4 l5
    obtain ⟨xs, y, rfl, ls⟩ := hrel
    obtain ⟨l0, l1, l2, l3, l4, l5⟩ := ls.cfg.cells
    obtain ⟨ad, cp, hv, hcp, _⟩ := ls.own.form
    have hyl := ls.lt
    have hle := ls.le
    by_cases hy : 1 ≤ y ∧ y ≤ K.S
    · by_cases hl : xs.length < K.S
      · obtain ⟨s, rfl⟩ : ∃ s, y = s + 1 := ⟨y - 1, by omega⟩
        have hs : s < K.S := by omega
        have d3 := c3 s hs
        have hL := hlk s hs
        have hy2 := hy.2
        subst hv
        go_wp2_with (first
          | (at_builtin; refine wpList_append_ints rfl _ _ rfl _ xs [s] rfl (ls.own.below (alloc_below _ _)) ⟨_, 0, none⟩ 1 1 rfl rfl (by simp) (one_new _ _ _) ?c3 ?_))
        case c3 => simp; omega
        intro v' w2 hI hg hp
        have ls' := ls.step hs hl _ hI hg hp hlt
        clear hI hg hp l0 l1 l2 l3 l4 l5 ls hyl hy
        obtain ⟨l0, l1, l2, l3, l4, l5⟩ := ls'.cfg.cells
        have hx := hlt (K.lk s)
        have q0 : ∀ w', Below w.heap.size w w' → w'.cell? ⟨b, off + K.lk s, none⟩ = some (.int .u64 (X.getD (K.lk s) 0 : Nat)) := fun w' h => (hR' w' h).2 (K.lk s) (by omega)
        generalize X.getD (K.lk s) 0 = nv at *
        go_wp2_with (first
          | (go_at_call 23; refine (d3 _).mono ?_; rintro e w3 ⟨rfl, hb⟩; replace ls' := ls'.below hb; have q := q0 _ ls'.bel; clear hb l0 l1 l2 l3 l4 l5))
        go_roundw
        case rel => exact ⟨_, _, rfl, ls'⟩
        case measure => rw [ls'.own.slLen]; simp [slLen]; omega
      · subst hv
        go_wp2
        go_ret
        exact ⟨_, rfl, ls.done (.inr hl)⟩
    · subst hv
      go_wp2
      all_goals go_ret
      all_goals exact ⟨_, rfl, ls.done (.inl hy)⟩
end Go.Proofs.YtjbjijkkmlehgaaDoor
/- Both Lists where there is nothing to tell; the reference's Same of one list twice, and Has. -/
namespace Go.Proofs.YtjbjijkkmlehgaaDoor
open Go.RowKit

set_option maxHeartbeats 1000000 in
theorem rlist_wrong {s a c d g k : Int} (hr : rightB s a c d g k = false) (ad : Option Addr) (n cap : Nat) (w : World) :
    Calls Tryd.prog 14 #[.agg (cs s a c d g k), .slice ad n cap] w fun e w' => e = .returned (.slice none 0 0) ∧ Below w.heap.size w w' := by
  have c1 := rright_any s a c d g k
  rw [hr] at c1
  have bel := alloc_below w (.cells #[.int .i64 s, .int .i64 a, .int .i64 c, .int .i64 d, .int .i64 g, .int .i64 k] 23)
  clear hr
  go_enter Tryd.func14, Tryd.ntmps14
  go_wp2_with (go_at_call 28; refine (c1 _).mono ?_; rintro e w1 ⟨rfl, hb⟩; replace bel := seq_below bel hb)
  go_ret
  exact ⟨rfl, bel⟩

set_option maxHeartbeats 1000000 in
theorem rlist_no {K : Cf} (hK : K.Ok) (ad : Option Addr) (n cap : Nat) (hn : n ≠ K.N) (w : World) :
    Calls Tryd.prog 14 #[.agg K.cs, .slice ad n cap] w fun e w' => e = .returned (.slice none 0 0) ∧ Below w.heap.size w w' := by
  have c1 := rright_any K.S K.a K.C K.D K.g K.k
  rw [hK.r] at c1
  have c2 := words_r K.C K.D K.S K.B K.a K.g K.k hK.c8 hK.d16 hK.s64 hK.b hK.b8
  rw [show nW K.C K.D K.B K.S = K.N from rfl] at c2
  have hne : ((n : Int) != (K.N : Int)) = true := by simp; omega
  have bel := alloc_below w (.cells #[.int .i64 (K.S : Nat), .int .i64 K.a, .int .i64 (K.C : Nat), .int .i64 (K.D : Nat), .int .i64 K.g, .int .i64 K.k] 23)
  have hh := cfg_new w K.S K.a K.C K.D K.g K.k
  go_enter Tryd.func14, Tryd.ntmps14
  go_upto_region 1 with fail
  generalize w.alloc (.cells #[.int .i64 (K.S : Nat), .int .i64 K.a, .int .i64 (K.C : Nat), .int .i64 (K.D : Nat), .int .i64 K.g, .int .i64 K.k] 23) = w0 at *
  obtain ⟨l0, l1, l2, l3, l4, l5⟩ := hh.cells
  go_wp2_with (first
    | (go_at_call 28; refine (c1 _).mono ?_; rintro e w1 ⟨rfl, hb⟩; replace bel := seq_below bel hb; replace hh := hh.below hb; clear hb l0 l1 l2 l3 l4 l5; obtain ⟨l0, l1, l2, l3, l4, l5⟩ := hh.cells)
    | (go_at_call 31; refine (c2 _).mono ?_; rintro e w1 ⟨R, cap2, rfl, _, _, hb⟩; replace bel := seq_below bel hb; replace hh := hh.below hb; clear hb l0 l1 l2 l3 l4 l5; obtain ⟨l0, l1, l2, l3, l4, l5⟩ := hh.cells))
  go_ret
  exact ⟨rfl, bel⟩

/-! Same -/
set_option maxHeartbeats 1000000 in
theorem same_yes {v1 v2 : Value} {xs : List Nat} {w : World} (h1 : IsI w v1 xs) (h2 : IsI w v2 xs) (hl : xs.length ≤ 65536) :
    Calls Tryd.prog 27 #[v1, v2] w fun e w' => e = .returned (.bool true) ∧ Below w.heap.size w w' := by
  obtain ⟨a1, p1, rfl, _, f1⟩ := h1.form
  obtain ⟨a2, p2, rfl, _, f2⟩ := h2.form
  generalize hn : xs.length = n at *
  have H1 : ∀ k, k < n → ∃ g off, a1 = some ⟨g, off, none⟩ ∧ w.cell? ⟨g, off + k, none⟩ = some (.int .i64 (xs.getD k 0 : Nat)) := fun k hk => by
    obtain ⟨g, off, rfl⟩ := f1 (by rintro rfl; simp at hn; omega)
    exact ⟨g, off, rfl, h1.cell k (by omega)⟩
  have H2 : ∀ k, k < n → ∃ g off, a2 = some ⟨g, off, none⟩ ∧ w.cell? ⟨g, off + k, none⟩ = some (.int .i64 (xs.getD k 0 : Nat)) := fun k hk => by
    obtain ⟨g, off, rfl⟩ := f2 (by rintro rfl; simp at hn; omega)
    exact ⟨g, off, rfl, h2.cell k (by omega)⟩
  clear h1 h2 f1 f2 hn
  go_enter Tryd.func27, Tryd.ntmps27
  go_wp2
  go_loopw [5] (fun i wr => ∃ k : Nat, k ≤ n ∧ i = .int .i64 k ∧ Hid (∃ m, wr = w.drewN m)) (fun i _ => n - (intOf i).toNat)
  case atStart => exact ⟨0, Nat.zero_le _, rfl, 0, rfl⟩
  case round =>
    obtain ⟨k, hk, rfl, hW⟩ := hrel
    by_cases hkl : k < n
    · obtain ⟨g1, o1, rfl, q1⟩ := H1 k hkl
      obtain ⟨g2, o2, rfl, q2⟩ := H2 k hkl
      have hc1 : wr.cell? ⟨g1, o1 + k, none⟩ = some (.int .i64 (xs.getD k 0 : Nat)) := by obtain ⟨m, rfl⟩ := hW.out; exact q1
      have hc2 : wr.cell? ⟨g2, o2 + k, none⟩ = some (.int .i64 (xs.getD k 0 : Nat)) := by obtain ⟨m, rfl⟩ := hW.out; exact q2
      clear H1 H2 q1 q2
      generalize xs.getD k 0 = v at *
      go_wp2_with fail
      go_quiet (fail)
      go_wp2
      go_roundw
      case rel => exact ⟨k + 1, by omega, by go_num, Mm.drew_on hW _⟩
      case measure => simp [intOf]; omega
    · have hkn : k = n := by omega
      subst hkn
      clear H1 H2
      go_wp2
      go_ret
      obtain ⟨m, rfl⟩ := hW.out
      exact ⟨rfl, below_drewN (Below.refl _ _) _⟩

/-! Has -/
set_option maxHeartbeats 1000000 in
theorem has_any {v : Value} {xs : List Nat} {w : World} (h : IsI w v xs) (hl : xs.length ≤ 65536) (x : Nat) :
    Calls Tryd.prog 17 #[v, .int .i64 (x : Nat)] w fun e w' => e = .returned (.bool (decide (x ∈ xs))) ∧ w = w' := by
  obtain ⟨a1, p1, rfl, _, f1⟩ := h.form
  have hb : ∀ k, k < xs.length → (xs.getD k 0 = x → x ∈ xs) := fun k hk e => by
    rw [← e]
    simp [hk]
  have hno : (∀ j, j < xs.length → xs.getD j 0 ≠ x) → ¬ x ∈ xs := fun ha hm => by
    obtain ⟨j, hj, e⟩ := List.mem_iff_getElem.1 hm
    exact ha j hj (by simp [hj, e])
  generalize hn : xs.length = n at *
  have H1 : ∀ k, k < n → ∃ g off, a1 = some ⟨g, off, none⟩ ∧ w.cell? ⟨g, off + k, none⟩ = some (.int .i64 (xs.getD k 0 : Nat)) := fun k hk => by
    obtain ⟨g, off, rfl⟩ := f1 (by rintro rfl; simp at hn; omega)
    exact ⟨g, off, rfl, h.cell k (by omega)⟩
  clear h f1 hn
  go_enter Tryd.func17, Tryd.ntmps17
  go_wp2
  go_loop [5] (fun i => ∃ k : Nat, k ≤ n ∧ i = .int .i64 k ∧ ∀ j, j < k → xs.getD j 0 ≠ x) (fun i => n - (intOf i).toNat)
  case atStart => exact ⟨0, Nat.zero_le _, rfl, fun j hj => by omega⟩
  case round =>
    obtain ⟨k, hk, rfl, hA⟩ := hrel
    by_cases hkl : k < n
    · obtain ⟨g1, o1, rfl, q1⟩ := H1 k hkl
      by_cases he : xs.getD k 0 = x
      · have hm := hb k hkl he
        rw [he] at q1
        clear H1 hb hno hA he
        go_wp2
        go_ret
        exact ⟨by simp, rfl⟩
      · have hA' : ∀ j, j < k + 1 → xs.getD j 0 ≠ x := fun j hj => by
          by_cases e : j = k
          · rw [e]; exact he
          · exact hA j (by omega)
        have hd : ((xs.getD k 0 : Nat) : Int) ≠ (x : Int) := by omega
        clear H1 hb hno hA he
        have HA : Hid (∀ j, j < k + 1 → xs.getD j 0 ≠ x) := hA'
        clear hA'
        generalize xs.getD k 0 = v at *
        go_wp2
        go_round
        case rel => exact ⟨k + 1, by omega, by go_num, HA.out⟩
        case measure => simp [intOf]; omega
    · have hkn : k = n := by omega
      subst hkn
      have hm := hno hA
      clear H1 hb hno hA
      go_wp2
      go_ret
      exact ⟨by simp, rfl⟩
end Go.Proofs.YtjbjijkkmlehgaaDoor
/- The free list as a chain of words; what a Pop and a Push alone do to it: no program in sight. -/
namespace Go.Proofs.YtjbjijkkmlehgaaDoor
open Mm (MS touched)
open Tg (movedW)

/-- The chain from a number on. -/
def Ch (K : Cf) (X : List Nat) : Nat → List Nat → Prop
  | x, [] => ¬ (1 ≤ x ∧ x ≤ K.S)
  | x, s :: F => x = s + 1 ∧ s < K.S ∧ Ch K X (X.getD (K.lk s) 0) F

theorem Ch.walk {K : Cf} {X : List Nat} : ∀ {F : List Nat} {x n : Nat}, Ch K X x F → F.length ≤ n → walkL K X n x = F
  | [], x, n, h, _ => by
    cases n with
    | zero => rfl
    | succ n => unfold walkL; rw [if_neg h]
  | s :: F, x, n, h, hl => by
    obtain ⟨rfl, hs, h2⟩ := h
    cases n with
    | zero => simp at hl
    | succ n =>
      unfold walkL
      rw [if_pos ⟨by omega, by omega⟩, Nat.add_sub_cancel, h2.walk (by simpa using hl)]
theorem Ch.lt {K : Cf} {X : List Nat} : ∀ {F : List Nat} {x : Nat}, Ch K X x F → ∀ s ∈ F, s < K.S
  | s :: F, x, h, t, ht => by
    obtain ⟨rfl, hs, h2⟩ := h
    rcases List.mem_cons.1 ht with rfl | ht
    · exact hs
    · exact h2.lt t ht
theorem Ch.kept {K : Cf} {X Y : List Nat} : ∀ {F : List Nat} {x : Nat}, Ch K X x F → (∀ s ∈ F, Y.getD (K.lk s) 0 = X.getD (K.lk s) 0) → Ch K Y x F
  | [], _, h, _ => h
  | s :: F, x, h, hk => by
    obtain ⟨rfl, hs, h2⟩ := h
    refine ⟨rfl, hs, ?_⟩
    rw [hk s (by simp)]
    exact h2.kept fun t ht => hk t (by simp [ht])
theorem Ch.nmd_nil {K : Cf} {X : List Nat} {x : Nat} (h : Ch K X x []) : nmd K.S x = -1 := by
  rcases nmd_cases K.S x with e | ⟨s, hs, e, rfl⟩
  · exact e
  · exact absurd ⟨by omega, by omega⟩ h
theorem Ch.nmd_cons {K : Cf} {X : List Nat} {x s : Nat} {F : List Nat} (h : Ch K X x (s :: F)) : nmd K.S x = (s : Int) := by
  obtain ⟨rfl, hs, _⟩ := h
  exact nmd_of hs
/-- A chain goes on from the number that its slot has, or 0. -/
theorem Ch.tosl {K : Cf} (hS : K.S ≤ 64) {X : List Nat} {x : Nat} {F : List Nat} (h : Ch K X x F) : Ch K X (Tg.sl (nmd K.S x)) F := by
  cases F with
  | nil =>
    rw [h.nmd_nil]
    show ¬ (1 ≤ Tg.sl (-1) ∧ Tg.sl (-1) ≤ K.S)
    unfold Tg.sl
    rw [if_neg (by omega)]
    omega
  | cons s F =>
    rw [h.nmd_cons]
    obtain ⟨rfl, hs, h2⟩ := h
    have e : Tg.sl (s : Int) = s + 1 := by unfold Tg.sl; rw [if_pos (by omega)]; omega
    rw [e]
    exact ⟨rfl, hs, h2⟩

theorem nodup_len : ∀ (S : Nat) (F : List Nat), F.Nodup → (∀ x ∈ F, x < S) → F.length ≤ S
  | 0, F, _, h => by
    cases F with
    | nil => simp
    | cons a F => exact absurd (h a (by simp)) (by omega)
  | S + 1, F, hn, h => by
    have h1 := nodup_len S (F.erase S) (hn.erase S) (fun x hx => by
      have h2 := (List.Nodup.mem_erase_iff hn).1 hx
      have := h x h2.2
      have := h2.1
      omega)
    rw [List.length_erase] at h1
    split at h1 <;> omega

/-- The words have this free list, its top this tag. -/
structure Top (K : Cf) (X : List Nat) (tag : Nat) (F : List Nat) : Prop where
  len : X.length = K.N
  ch : Ch K X (X.getD 3 0 % 65536) F
  tg : X.getD 3 0 / 65536 = tag
  nd : F.Nodup

theorem Top.list {K : Cf} {X : List Nat} {tag : Nat} {F : List Nat} (h : Top K X tag F) : lst K X = F := h.ch.walk (nodup_len K.S F h.nd h.ch.lt)

theorem movedW_mod (W : Nat) (s : Int) : movedW W s % 65536 = Tg.sl s := by
  have := Tg.sl_le s
  unfold movedW
  omega
theorem movedW_div (W : Nat) (s : Int) (h : W / 65536 + 1 < 281474976710656) : movedW W s / 65536 = W / 65536 + 1 := by
  have := Tg.sl_le s
  unfold movedW
  omega

theorem Top.fst {K : Cf} {X : List Nat} {tag s : Nat} {F : List Nat} (h : Top K X tag (s :: F)) : fst K.S (X.getD 3 0) = (s : Int) := h.ch.nmd_cons
theorem Top.fst_nil {K : Cf} {X : List Nat} {tag : Nat} (h : Top K X tag []) : YtjbjijkkmlehgaaDoor.fst K.S (X.getD 3 0) = -1 := h.ch.nmd_nil

/-- The top swapped for its next one, of the second slot. -/
theorem Top.popped {K : Cf} (hK : K.Ok) {X : List Nat} {tag s : Nat} {F : List Nat} (h : Top K X tag (s :: F)) (ht : tag + 1 < 281474976710656) :
    Top K (X.set 3 (movedW (X.getD 3 0) (nmd K.S (X.getD (K.lk s) 0)))) (tag + 1) F := by
  have hN := hK.N_b
  have e3 : ∀ v, (X.set 3 v).getD 3 0 = v := fun v => by rw [getD_set, if_pos ⟨rfl, by have := h.len; omega⟩]
  refine ⟨by simp [h.len], ?_, ?_, (List.nodup_cons.1 h.nd).2⟩
  · rw [e3, movedW_mod]
    refine (h.ch.2.2.tosl hK.s64).kept fun t ht => ?_
    rw [getD_set, if_neg (by have := K.lk_4 t; omega)]
  · rw [e3, movedW_div _ _ (by have := h.tg; omega), h.tg]
/-- A slot laid ahead: its link stored, the top swapped for its next one. -/
theorem Top.linked {K : Cf} {X : List Nat} {tag s : Nat} {F : List Nat} (h : Top K X tag F) (hs : s ∉ F) (v : Nat) : Top K (X.set (K.lk s) v) tag F := by
  have e3 : (X.set (K.lk s) v).getD 3 0 = X.getD 3 0 := by rw [getD_set, if_neg (by have := K.lk_4 s; omega)]
  refine ⟨by simp [h.len], ?_, by rw [e3]; exact h.tg, h.nd⟩
  rw [e3]
  refine h.ch.kept fun t ht => ?_
  rw [getD_set, if_neg (fun (e : K.lk s = K.lk t ∧ _) => hs (by rw [K.lk_inj e.1]; exact ht))]
theorem Top.pushed {K : Cf} (hK : K.Ok) {X : List Nat} {tag s : Nat} {F : List Nat} (h : Top K X tag F) (hs : s ∉ F) (hsS : s < K.S) (ht : tag + 1 < 281474976710656) (hl : X.getD (K.lk s) 0 = (YtjbjijkkmlehgaaDoor.fst K.S (X.getD 3 0) + 1).toNat) :
    Top K (X.set 3 (movedW (X.getD 3 0) (s : Nat))) (tag + 1) (s :: F) := by
  have hN := hK.N_b
  have h64 := hK.s64
  have e3 : ∀ v, (X.set 3 v).getD 3 0 = v := fun v => by rw [getD_set, if_pos ⟨rfl, by have := h.len; omega⟩]
  have el : ∀ v t, (X.set 3 v).getD (K.lk t) 0 = X.getD (K.lk t) 0 := fun v t => by rw [getD_set, if_neg (by have := K.lk_4 t; omega)]
  refine ⟨by simp [h.len], ?_, ?_, List.nodup_cons.2 ⟨hs, h.nd⟩⟩
  · rw [e3, movedW_mod]
    refine ⟨by unfold Tg.sl; rw [if_pos (by omega)]; omega, hsS, ?_⟩
    rw [el, hl]
    have hc := (h.ch.tosl h64).kept (Y := X.set 3 (movedW (X.getD 3 0) (s : Nat))) fun t _ => el _ t
    have e : Tg.sl (nmd K.S (X.getD 3 0 % 65536)) = (YtjbjijkkmlehgaaDoor.fst K.S (X.getD 3 0) + 1).toNat := by
      show Tg.sl (YtjbjijkkmlehgaaDoor.fst K.S (X.getD 3 0)) = _
      rcases fst_cases K.S (X.getD 3 0) with e | ⟨t, ht, e, _⟩
      · rw [e]; rfl
      · rw [e]; unfold Tg.sl; rw [if_pos (by omega)]
    rw [← e]
    exact hc
  · rw [e3, movedW_div _ _ (by have := h.tg; omega), h.tg]

theorem memX_get (C D B N k p : Nat) (h : p < N) : (memX C D B N k).getD p 0 = memK C D B k p := by
  simp [memX, h]
theorem link_new {K : Cf} (hK : K.Ok) {s : Nat} (hs : s < K.S) : (memK0 K).X.getD (K.lk s) 0 = if s + 1 < K.S then s + 2 else 0 := by
  show (memX K.C K.D K.B K.N (K.S - 1)).getD (K.lk s) 0 = _
  rw [memX_get _ _ _ _ _ _ (hK.lk_lt hs)]
  unfold memK
  have h4 := K.lk_4 s
  rw [if_neg (by omega), show wat K.C K.D K.B (K.lk s) = (9, s, 0) from wat_link K.C K.D K.B s]
  by_cases h : s + 1 < K.S
  · rw [if_pos h, if_pos ⟨rfl, by show s < K.S - 1; omega⟩]
  · rw [if_neg h, if_neg (fun e => by have : s < K.S - 1 := e.2; omega)]
theorem ch_new {K : Cf} (hK : K.Ok) : ∀ (n s : Nat), s + n = K.S → Ch K (memK0 K).X (if s < K.S then s + 1 else 0) (List.range' s n)
  | 0, s, h => by rw [if_neg (by omega)]; show ¬ _; omega
  | n + 1, s, h => by
    rw [if_pos (by omega)]
    refine ⟨rfl, by omega, ?_⟩
    rw [link_new hK (by omega)]
    exact ch_new hK n (s + 1) (by omega)
/-- The memory of a right config in which nothing was done. -/
theorem top_new {K : Cf} (hK : K.Ok) : Top K (memK0 K).X 0 (List.range' 0 K.S) := by
  have hN := hK.N_b
  have h1 := hK.s1
  have e : (memK0 K).X.getD 3 0 = 1 := by
    show (memX K.C K.D K.B K.N (K.S - 1)).getD 3 0 = 1
    rw [memX_get _ _ _ _ _ _ (by omega)]
    rfl
  refine ⟨memX_len _ _ _ _ _, ?_, by rw [e], List.nodup_range'⟩
  rw [e]
  have := ch_new hK K.S 0 (by omega)
  rw [if_pos (by omega)] at this
  exact this
end Go.Proofs.YtjbjijkkmlehgaaDoor
