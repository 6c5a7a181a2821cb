/- Slices of ints in blocks of the call's own, at whatever offset; append onto one. -/
import Derived.Test.YtecppcakgfohbabNB
import Derived.ArgAppend
import Derived.Maps.AppendAt
import Derived.Laws.AppendOwnNone
namespace Go.Proofs.Ytecppcakgfohbab
open Go.RowKit

def ints (xs : List Int) : List Value := xs.map fun (x : Int) => Value.int .i64 x
theorem ints_len (xs : List Int) : (ints xs).length = xs.length := by simp [ints]
theorem ints_get (xs : List Int) (i : Nat) (h : i < xs.length) : (ints xs)[i]? = some (.int .i64 (xs.getD i 0)) := by simp [ints, h]
theorem ints_one (xs : List Int) : ∀ u ∈ ints xs, u.oneCell' = true := by
  intro u hu
  obtain ⟨x, _, rfl⟩ := List.mem_map.1 hu
  rfl

/-- A slice of these ints, its block the call's own. -/
def IsZ (w : World) (v : Value) (xs : List Int) : Prop :=
  (v = .slice none 0 0 ∧ xs = []) ∨
  ∃ g off cap cur, v = .slice (some ⟨g, off, none⟩) xs.length cap ∧ w.heap[g]? = some (.cells cur 3 (0, 0)) ∧ xs.length ≤ cap ∧ cap ≤ maxLen ∧ off + cap ≤ cur.size ∧ ∀ i, i < xs.length → cur[off + i]? = some (.int .i64 (xs.getD i 0))

theorem IsZ.nil (w : World) : IsZ w (.slice none 0 0) [] := .inl ⟨rfl, rfl⟩
theorem IsZ.lt {w : World} {v : Value} {xs : List Int} (h : IsZ w v xs) {g : Nat} (hg : v.ownBlock = some g) : g < w.heap.size := by
  rcases h with ⟨rfl, _⟩ | ⟨g', off, cap, cur, rfl, hh, _⟩
  · cases hg
  · obtain rfl : g' = g := by simpa [Value.ownBlock] using hg
    exact lt_of_block hh
theorem IsZ.kept {w w' : World} {v : Value} {xs : List Int} (h : IsZ w v xs) (hb : ∀ g, v.ownBlock = some g → w'.heap[g]? = w.heap[g]?) : IsZ w' v xs := by
  rcases h with h | ⟨g, off, cap, cur, rfl, hh, rest⟩
  · exact .inl h
  · exact .inr ⟨g, off, cap, cur, rfl, (hb g rfl).trans hh, rest⟩
theorem IsZ.below {w w' : World} {v : Value} {xs : List Int} (h : IsZ w v xs) (b : Below w.heap.size w w') : IsZ w' v xs := h.kept fun g hg => b.block g (h.lt hg)
theorem IsZ.chg {L : Nat → Prop} {w w' : World} {v : Value} {xs : List Int} (h : IsZ w v xs) (b : Chg L w w') (hn : ∀ g, v.ownBlock = some g → ¬ L g) : IsZ w' v xs := h.kept fun g hg => b.block g (h.lt hg) (hn g hg)

/-- The slice's form, for a walk. -/
theorem IsZ.form {w : World} {v : Value} {xs : List Int} (h : IsZ w v xs) : ∃ ad cap, v = .slice ad xs.length cap ∧ xs.length ≤ cap ∧ (xs ≠ [] → ∃ g off, ad = some ⟨g, off, none⟩) := by
  rcases h with ⟨rfl, rfl⟩ | ⟨g, off, cap, cur, rfl, _, hc, _⟩
  · exact ⟨none, 0, rfl, Nat.le_refl _, fun h => absurd rfl h⟩
  · exact ⟨_, _, rfl, hc, fun _ => ⟨g, off, rfl⟩⟩
theorem IsZ.cell {w : World} {g off n cap : Nat} {xs : List Int} (h : IsZ w (.slice (some ⟨g, off, none⟩) n cap) xs) (i : Nat) (hi : i < xs.length) : w.cell? ⟨g, off + i, none⟩ = some (.int .i64 (xs.getD i 0)) := by
  rcases h with ⟨h0, _⟩ | ⟨g', off', cap', cur, h1, hh, _, _, _, hc⟩
  · cases h0
  · simp only [Value.slice.injEq, Option.some.injEq, Addr.mk.injEq] at h1
    obtain ⟨⟨rfl, rfl, -⟩, -, -⟩ := h1
    simp only [World.cell?, hh]
    exact hc i hi
theorem IsZ.len {w : World} {ad : Option Addr} {n cap : Nat} {xs : List Int} (h : IsZ w (.slice ad n cap) xs) : n = xs.length ∧ n ≤ cap ∧ cap ≤ maxLen := by
  rcases h with ⟨h0, rfl⟩ | ⟨g', off', cap', cur, h1, hh, h2, h3, _⟩
  · simp only [Value.slice.injEq] at h0; obtain ⟨_, rfl, rfl⟩ := h0; exact ⟨rfl, Nat.le_refl _, Nat.zero_le _⟩
  · simp only [Value.slice.injEq] at h1; obtain ⟨_, rfl, rfl⟩ := h1; exact ⟨rfl, h2, h3⟩

theorem IsZ.tail {w : World} {g off n cap : Nat} {x : Int} {xs : List Int} (h : IsZ w (.slice (some ⟨g, off, none⟩) n cap) (x :: xs)) : IsZ w (.slice (some ⟨g, off + 1, none⟩) xs.length (cap - 1)) xs := by
  rcases h with ⟨h0, _⟩ | ⟨g', off', cap', cur, h1, hh, h2, h3, h4, hc⟩
  · cases h0
  · simp only [Value.slice.injEq, Option.some.injEq, Addr.mk.injEq] at h1
    obtain ⟨⟨rfl, rfl, -⟩, rfl, rfl⟩ := h1
    simp only [List.length_cons] at h2 hc
    refine .inr ⟨g, off + 1, cap - 1, cur, rfl, hh, by omega, by omega, by omega, fun i hi => ?_⟩
    have := hc (i + 1) (by omega)
    rw [show off + 1 + i = off + (i + 1) by omega, this]
    simp

/-- All but the first element; the address stays where there is no room left. -/
theorem IsZ.tails {w : World} {g off n cap : Nat} {x : Int} {xs : List Int} (h : IsZ w (.slice (some ⟨g, off, none⟩) n cap) (x :: xs)) : IsZ w (.slice (if cap = 1 then some ⟨g, off, none⟩ else some ⟨g, off + 1, none⟩) xs.length (cap - 1)) xs := by
  by_cases hc : cap = 1
  · rw [if_pos hc]
    have hl := h.len
    simp only [List.length_cons] at hl
    have h0 : xs = [] := List.eq_nil_of_length_eq_zero (by omega)
    subst h0 hc
    rcases h with ⟨h0, _⟩ | ⟨g', off', cap', cur, h1, hh, h2, h3, h4, _⟩
    · cases h0
    · simp only [Value.slice.injEq, Option.some.injEq, Addr.mk.injEq] at h1
      obtain ⟨⟨rfl, rfl, -⟩, rfl, rfl⟩ := h1
      exact .inr ⟨g, off, 0, cur, rfl, hh, Nat.le_refl _, Nat.zero_le _, by omega, fun i hi => by simp at hi⟩
  · rw [if_neg hc]
    exact h.tail

theorem IsZ.of_own {w : World} {base : Nat} {v : Value} {n : Nat} {xs : List Int} {ys : List Value} (h : w.ownsRow base 3 1 v n ys) (hy : ys = ints xs) : IsZ w v xs ∧ ∀ g, v.ownBlock = some g → base ≤ g := by
  subst hy
  have hn : xs.length = n := by have := h.1; rw [ints_len] at this; omega
  rcases h.2 with ⟨rfl, rfl⟩ | ⟨g, cap, cur, rfl, hb, hh, h2, h3, h4, h5⟩
  · exact ⟨.inl ⟨rfl, List.eq_nil_of_length_eq_zero hn⟩, fun g hg => by cases hg⟩
  · refine ⟨.inr ⟨g, 0, cap, cur, by rw [hn], hh, by omega, h3, by omega, fun i hi => ?_⟩, fun g' hg' => by obtain rfl : g = g' := by simpa [Value.ownBlock] using hg'
                                                                                                            exact hb⟩
    have e := ints_get xs i hi
    rw [← h5, Nat.mul_one, List.getElem?_take, if_pos (by omega)] at e
    simpa using e

/-- A row behind some stores. -/
theorem heap_setCells {g : Nat} {e : TypeId} {fz : Nat × Nat} : ∀ (vs : List Value) (o : Nat) (w : World) (cur : Array Value), w.heap[g]? = some (.cells cur e fz) → o + vs.length ≤ cur.size →
    ∃ cur', (w.setCells g o vs).heap[g]? = some (.cells cur' e fz) ∧ cur'.size = cur.size ∧ (∀ j, j < vs.length → cur'[o + j]? = vs[j]?) ∧ (∀ j, j < o → cur'[j]? = cur[j]?) ∧ w.grownBy (w.setCells g o vs) (some g)
  | [], o, w, cur, h, _ => ⟨cur, h, rfl, fun j hj => by simp at hj, fun _ _ => rfl, ⟨rfl, rfl, rfl, Nat.le_refl _, fun _ _ _ => rfl⟩⟩
  | v :: vs, o, w, cur, h, hl => by
    simp only [List.length_cons] at hl
    have h1 := heap_put (o := o) h v
    obtain ⟨cur', h2, h3, h4, h5, h6⟩ := heap_setCells vs (o + 1) _ _ h1 (by simp; omega)
    refine ⟨cur', h2, by simpa using h3, ?_, ?_, ?_⟩
    · intro j hj
      cases j with
      | zero => rw [Nat.add_zero, h5 o (by omega)]; simp [show o < cur.size by omega]
      | succ j =>
        have := h4 j (by simpa using hj)
        rw [show o + (j + 1) = o + 1 + j by omega, this]
        simp
    · intro j hj
      rw [h5 j (by omega)]
      rw [Array.getElem?_setIfInBounds_ne (by omega)]
    · exact ⟨h6.os, h6.tape, h6.output, Nat.le_trans (by simp [World.setCell]) h6.size, fun k hk hne => (h6.block k (by simpa [World.setCell] using hk) hne).trans (Below.heap_setCell _ _ _ _ (by intro e; exact hne (by simpa using e)))⟩

theorem IsZ.init {w : World} {ad : Option Addr} {n cap : Nat} {x : Int} {xs : List Int} (h : IsZ w (.slice ad n cap) (xs ++ [x])) : IsZ w (.slice ad xs.length cap) xs := by
  rcases h with ⟨h0, h1⟩ | ⟨g', off', cap', cur, h1, hh, h2, h3, h4, hc⟩
  · simp at h1
  · simp only [Value.slice.injEq] at h1
    obtain ⟨rfl, rfl, rfl⟩ := h1
    simp only [List.length_append, List.length_cons, List.length_nil] at h2 hc
    refine .inr ⟨g', off', cap, cur, rfl, hh, by omega, by omega, by omega, fun i hi => ?_⟩
    rw [hc i (by omega)]
    simp [List.getElem?_append_left hi]
theorem Try.info3 : (Try.prog.info? 3).map (fun i => (i.zero, i.size, i.bytes)) = some (some (.int .i64 0), 1, 8) := by kernel_rfl

/-- Append: the slice is then of both lists, in the row that it had, or in a new one. -/
theorem run_append_ints {w : World} {v : Value} {xs ys : List Int} (hI : IsZ w v xs) (ty : TypeId) (ad : Addr) (c : Nat) (hy : ys ≠ []) (hys : ∀ j u, (ints ys)[j]? = some u → w.cell? (ad.add j) = some u) (hl : xs.length + ys.length ≤ 1000000) :
    ∃ v' w', (Builtin.append_ #[25, 25] ty #[v, .slice (some ad) ys.length c]).run Try.prog w = .ok v' w' ∧ IsZ w' v' (xs ++ ys) ∧ w.grownBy w' v.ownBlock ∧ (v'.ownBlock = v.ownBlock ∨ ∃ g, v'.ownBlock = some g ∧ w.heap.size ≤ g) := by
  obtain ⟨i0, hi, hz0, hz1, hz2⟩ := info_parts Try.info3
  have hy1 : 0 < ys.length := List.length_pos_iff.2 hy
  rcases hI with ⟨rfl, rfl⟩ | ⟨g, off, cap, cur, rfl, hh, h2, h3, h4, hc⟩
  · obtain ⟨v', w', hr, h2, h3, _, _⟩ := run_append_own_at (P := Try.prog) w w.heap.size 25 ty 3 i0 (.int .i64 0) 1 8 Try.underlying25 hi hz0 hz1 hz2 rfl (by decide) (.slice none 0 0) 0 [] (World.ownsRow_nil _ _ _ _) ad ys.length c (ints ys) (by rw [ints_len]; omega) hys (ints_one _) (by unfold maxLen; simp at hl; omega) (by simp at hl; omega) (Nat.le_refl _)
    obtain ⟨q1, q2⟩ := IsZ.of_own h2 (xs := [] ++ ys) (by simp)
    refine ⟨v', w', hr, q1, h3, .inr ?_⟩
    rcases h2.2 with ⟨_, h0⟩ | ⟨g, cap, cur, rfl, hb, _⟩
    · omega
    · exact ⟨g, rfl, hb⟩
  · by_cases hroom : xs.length + ys.length ≤ cap
    · have e1 : xs.length * i0.size = xs.length := by rw [hz1]; omega
      have hcell : ∀ j, j < (ints ys).length → w.cell? ⟨g, off + xs.length * i0.size + j, none⟩ = cur[off + xs.length + j]? := fun j _ => by rw [e1]; simp [World.cell?, hh]
      have hr := run_append_room_cells (P := Try.prog) w 25 ty 3 i0 Try.underlying25 hi g off xs.length cap ad ys.length c (ints ys) (by rw [ints_len, hz1]; omega) hys (ints_one _) hroom
        (fun j hj => by rw [hcell j hj]; rw [ints_len] at hj; rw [Array.getElem?_eq_getElem (by omega)]; rfl) (fun j _ => by simp [World.frozen?, hh])
      rw [e1] at hr
      obtain ⟨cur', k1, k2, k3, k4, k5⟩ := heap_setCells (ints ys) (off + xs.length) w cur hh (by rw [ints_len]; omega)
      refine ⟨_, _, hr, .inr ⟨g, off, cap, cur', by rw [List.length_append], k1, by rw [List.length_append]; exact hroom, h3, by omega, fun i hi => ?_⟩, k5, .inl rfl⟩
      rw [List.length_append] at hi
      by_cases hx : i < xs.length
      · rw [k4 _ (by omega), hc i hx]
        simp [List.getElem?_append_left hx]
      · have := k3 (i - xs.length) (by rw [ints_len]; omega)
        rw [show off + i = off + xs.length + (i - xs.length) by omega, this, ints_get ys _ (by omega)]
        simp [List.getElem?_append_right (show xs.length ≤ i by omega)]
    · have holds : ∀ j u, (ints xs)[j]? = some u → w.cell? ((⟨g, off, none⟩ : Addr).add j) = some u := by
        intro j u hj
        have hjl : j < xs.length := by
          have := (List.getElem?_eq_some_iff.1 hj).1
          rwa [ints_len] at this
        rw [Addr.add_lit]
        rw [ints_get xs j hjl] at hj
        simp only [World.cell?, hh, hc j hjl]
        exact hj
      obtain ⟨v', w', hr, h5, h6⟩ := run_append_arg_grows (P := Try.prog) w 25 ty 3 i0 (.int .i64 0) 1 8 Try.underlying25 hi hz0 hz1 hz2 rfl (by decide) ⟨g, off, none⟩ xs.length cap (ints xs) (by rw [ints_len]; omega) holds ad ys.length c (ints ys) (by rw [ints_len]; omega) hys (by omega) (by unfold maxLen; omega) (by omega)
      obtain ⟨q1, q2⟩ := IsZ.of_own h5 (xs := xs ++ ys) (by simp [ints])
      refine ⟨v', w', hr, q1, ⟨h6.os, h6.tape, h6.output, h6.size, fun k hk _ => h6.block k hk (by simp)⟩, .inr ?_⟩
      rcases h5.2 with ⟨_, h0⟩ | ⟨g', cap', cur', rfl, hb, _⟩
      · omega
      · exact ⟨g', rfl, hb⟩

/-- The same for the walk. -/
theorem wpList_append_ints {w : World} {ops : Array Oper} {rest : List Oper} {o : Oper} {a : Act} {Q : Exit → Act → World → Prop} (hgd : o.guard = none) (s x : Operand)
    (ho : o.op = .call { callee := .builtin .append, args := #[s, x], argTypes := #[25, 25] })
    (v : Value) (xs ys : List Int) (hs : a.eval s = v) (hI : IsZ w v xs) (ad : Addr) (n c : Nat) (hx : a.eval x = .slice (some ad) n c) (hn : n = ys.length) (hy : ys ≠ [])
    (hys : ∀ j u, (ints ys)[j]? = some u → w.cell? (ad.add j) = some u) (hl : xs.length + ys.length ≤ 1000000)
    (h : ∀ v' w', IsZ w' v' (xs ++ ys) → w.grownBy w' v.ownBlock → (v'.ownBlock = v.ownBlock ∨ ∃ g, v'.ownBlock = some g ∧ w.heap.size ≤ g) → wpList Try.prog ops Q rest (a.put o.dst v') w') : wpList Try.prog ops Q (o :: rest) a w := by
  subst hn
  refine wpList_plain hgd fun K hK => ?_
  obtain ⟨v', w', hr, h2, h3, h4⟩ := run_append_ints hI o.type ad c hy hys hl
  unfold Oper.wp execOp
  simp only [ho, resolve, invoke, builtin, Sem.run_bind, Sem.run_pure, Result.andThen_ok, List.map_toArray, List.map_cons, List.map_nil, hs, hx, hr]
  exact hK _ _ (h v' w' h2 h3 h4)

/-- The same at a step of a region that draws its order. -/
theorem step_append_ints {w : World} {ops : Array Oper} {o : Oper} {a : Act} {K : Act → World → Prop} {Q : Exit → Act → World → Prop} {E : Prop} (hgd : o.guard = none) (s x : Operand)
    (ho : o.op = .call { callee := .builtin .append, args := #[s, x], argTypes := #[25, 25] })
    (v : Value) (xs ys : List Int) (hs : a.eval s = v) (hI : IsZ w v xs) (ad : Addr) (n c : Nat) (hx : a.eval x = .slice (some ad) n c) (hn : n = ys.length) (hy : ys ≠ [])
    (hys : ∀ j u, (ints ys)[j]? = some u → w.cell? (ad.add j) = some u) (hl : xs.length + ys.length ≤ 1000000)
    (h : ∀ v' w', IsZ w' v' (xs ++ ys) → w.grownBy w' v.ownBlock → (v'.ownBlock = v.ownBlock ∨ ∃ g, v'.ownBlock = some g ∧ w.heap.size ≤ g) → K (a.put o.dst v') w') :
    if Region.wanted o (yielded ops a.tmps) = true then Oper.wp Try.prog o a w K Q else E := by
  have hw : Region.wanted o (yielded ops a.tmps) = true := by simp [Region.wanted, hgd]
  rw [if_pos hw]
  subst hn
  obtain ⟨v', w', hr, h2, h3, h4⟩ := run_append_ints hI o.type ad c hy hys hl
  unfold Oper.wp execOp
  simp only [ho, resolve, invoke, builtin, Sem.run_bind, Sem.run_pure, Result.andThen_ok, List.map_toArray, List.map_cons, List.map_nil, hs, hx, hr]
  exact h v' w' h2 h3 h4

theorem one_new (w : World) (y : Int) (t : TypeId) : ∀ j u, (ints [y])[j]? = some u → (w.alloc (.cells #[.int .i64 y] t)).cell? ((⟨w.heap.size, 0, none⟩ : Addr).add j) = some u := cell_one_new w _ t
end Go.Proofs.Ytecppcakgfohbab
