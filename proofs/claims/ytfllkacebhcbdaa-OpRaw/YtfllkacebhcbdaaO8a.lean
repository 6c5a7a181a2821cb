/- Layer 16: OpRaw. -/
import Derived.Test.YtfllkacebhcbdaaO6
namespace Go.Proofs.Ytfllkacebhcbdaa
open Go.RowKit

theorem info_parts {P : Program} {t : TypeId} {z : Value} {n b : Nat} (h : (P.info? t).map (fun i => (i.zero, i.size, i.bytes)) = some (some z, n, b)) : ∃ i, P.info? t = some i ∧ i.zero = some z ∧ i.size = n ∧ i.bytes = b := by
  cases hi : P.info? t with
  | none => rw [hi] at h; cases h
  | some i =>
    rw [hi] at h
    simp only [Option.map_some, Option.some.injEq, Prod.mk.injEq] at h
    exact ⟨i, rfl, h.1, h.2.1, h.2.2⟩
theorem Try.infoU : (Try.prog.info? 22).map (fun i => (i.zero, i.size, i.bytes)) = some (some (.int .u64 0), 1, 8) := by kernel_rfl
theorem Try.infoSU : (Try.prog.info? 36).map (fun i => (i.zero, i.size, i.bytes)) = some (some (.slice none 0 0), 1, 24) := by kernel_rfl
/-- A row of words that a call laid. -/
def RowU (w : World) (v : Value) (L : List Nat) : Prop := ∃ g off cap cur, v = .slice (some ⟨g, off, none⟩) L.length cap ∧ w.heap[g]? = some (.cells cur 22 (0, 0)) ∧ ∀ i x, L[i]? = some x → cur[off + i]? = some (.int .u64 (x : Nat))
theorem RowU.rd {w : World} {a : Option Addr} {n c : Nat} {L : List Nat} (h : RowU w (.slice a n c) L) : RdU w a L ∧ n = L.length := by
  obtain ⟨g, off, cap, cur, h1, h2, h3⟩ := h
  simp only [Value.slice.injEq] at h1
  obtain ⟨rfl, rfl, rfl⟩ := h1
  exact ⟨fun i x hx => ⟨g, off, rfl, lt_of_block h2, by simp [World.cell?, h2, h3 i x hx]⟩, rfl⟩
theorem RowU.below {w w' : World} {v : Value} {L : List Nat} (h : RowU w v L) (b : Below w.heap.size w w') : RowU w' v L := by
  obtain ⟨g, off, cap, cur, h1, h2, h3⟩ := h
  exact ⟨g, off, cap, cur, h1, (b.block _ (lt_of_block h2)).trans h2, h3⟩
theorem new_news (w : World) (arr : Array Value) (t : TypeId) (j : Nat) (u : Value) (h : arr.toList[j]? = some u) : (w.alloc (.cells arr t)).cell? ((⟨w.heap.size, 0, none⟩ : Addr).add j) = some u := by
  have hq := new_obj w (.cells arr t)
  rw [add_none]
  simp only [World.cell?, hq, Nat.zero_add]
  simpa using h
def us (L : List Nat) : List Value := L.map fun x => Value.int .u64 (x : Nat)
theorem us_len (L : List Nat) : (us L).length = L.length := by simp [us]
theorem us_get {L : List Nat} {j : Nat} {u : Value} (h : (us L)[j]? = some u) : ∃ x, L[j]? = some x ∧ u = .int .u64 (x : Nat) := by
  unfold us at h
  rw [List.getElem?_map] at h
  cases hx : L[j]? with
  | none => rw [hx] at h; cases h
  | some x => rw [hx] at h; exact ⟨x, rfl, by simpa using h.symm⟩
theorem us_one (L : List Nat) : ∀ u ∈ us L, u.oneCell' = true := by
  intro u hu
  obtain ⟨x, _, rfl⟩ := List.mem_map.1 hu
  rfl
theorem RowU.of_own {w : World} {base n : Nat} {v : Value} {L : List Nat} (h : w.ownsRow base 22 1 v n (us L)) (hL : L ≠ []) : RowU w v L := by
  have hn : L.length = n := by have := h.1; rw [us_len] at this; omega
  rcases h.2 with ⟨_, h0⟩ | ⟨g, cap, cur, rfl, hb, hh, h2, h3, h4, h5⟩
  · exact absurd (List.eq_nil_of_length_eq_zero (hn.trans h0)) hL
  · refine ⟨g, 0, cap, cur, by rw [hn], hh, fun i x hx => ?_⟩
    have hi : i < n := by have := (List.getElem?_eq_some_iff.1 hx).1; omega
    have e : (us L)[i]? = some (.int .u64 (x : Nat)) := by unfold us; rw [List.getElem?_map, hx]; rfl
    rw [← h5, Nat.mul_one, List.getElem?_take, if_pos hi] at e
    simpa using e
theorem run_append_us {w : World} {base n : Nat} {v : Value} {xs : List Nat} (hown : w.ownsRow base 22 1 v n (us xs)) {a : Option Addr} {c : Nat} {L : List Nat} (hR : RdU w a L) (ty : TypeId) (hb : (n + L.length) * 8 ≤ 140737488355328) (hbase : base ≤ w.heap.size) :
    ∃ v' w', (Builtin.append_ #[36, 36] ty #[v, .slice a L.length c]).run Try.prog w = .ok v' w' ∧ w'.ownsRow base 22 1 v' (n + L.length) (us (xs ++ L)) ∧ w.grownBy w' v.ownBlock := by
  obtain ⟨i0, hi, hz0, hz1, hz2⟩ := info_parts Try.infoU
  by_cases hL : L = []
  · subst hL
    have hsrc : Src Try.prog i0.size 36 (.slice a 0 c) 0 [] w := by
      cases a with
      | none => exact Src.ofNil w Try.underlying36 c
      | some a => exact Src.ofSlice w Try.underlying36 a 0 c [] (by simp) (fun j u h => by simp at h) (fun u h => by simp at h)
    obtain ⟨ad, cp, rfl⟩ := own_form hown
    have hcp : n ≤ cp := by
      rcases hown.2 with ⟨h1, h2⟩ | ⟨g, cap, cur, h1, _, _, h2, _⟩
      · omega
      · simp only [Value.slice.injEq] at h1; omega
    refine ⟨_, w, run_append_nothing w 36 36 ty 22 i0 Try.underlying36 hi ad n cp hcp _ hsrc, ?_, ⟨rfl, rfl, rfl, Nat.le_refl _, fun _ _ _ => rfl⟩⟩
    rw [List.append_nil]
    exact hown
  · have hp : 0 < L.length := List.length_pos_iff.2 hL
    obtain ⟨x0, hx0⟩ : ∃ x, L[0]? = some x := ⟨_, List.getElem?_eq_getElem hp⟩
    obtain ⟨b, off, rfl, _, _⟩ := hR 0 x0 hx0
    obtain ⟨v', w', hr, h2, h3, _, _⟩ := run_append_own_at (P := Try.prog) w base 36 ty 22 i0 (.int .u64 0) 1 8 Try.underlying36 hi hz0 hz1 hz2 rfl (by decide) v n (us xs) hown ⟨b, off, none⟩ L.length c (us L) (by rw [us_len]; omega)
      (fun j u hj => by
        obtain ⟨x, hx, rfl⟩ := us_get hj
        obtain ⟨b', off', h1, _, h2⟩ := hR j x hx
        simp only [Option.some.injEq, Addr.mk.injEq] at h1
        obtain ⟨rfl, rfl, -⟩ := h1
        rw [add_none]
        exact h2) (us_one _) (by unfold maxLen; omega) hb hbase
    refine ⟨v', w', hr, ?_, h3⟩
    have e : us (xs ++ L) = us xs ++ us L := by simp [us]
    rw [e]
    exact h2
theorem wpList_append_us {w : World} {ops : Array Oper} {rest : List Oper} {o : Oper} {a : Act} {Q : Exit → Act → World → Prop} (hgd : o.guard = none) (s x : Operand)
    (ho : o.op = .call { callee := .builtin .append, args := #[s, x], argTypes := #[36, 36] })
    (base n : Nat) (v : Value) (xs : List Nat) (hs : a.eval s = v) (hown : w.ownsRow base 22 1 v n (us xs)) (ad : Option Addr) (m c : Nat) (L : List Nat) (hx : a.eval x = .slice ad m c) (hm : m = L.length) (hR : RdU w ad L) (hb : (n + L.length) * 8 ≤ 140737488355328) (hbase : base ≤ w.heap.size)
    (h : ∀ v' w', w'.ownsRow base 22 1 v' (n + L.length) (us (xs ++ L)) → w.grownBy w' v.ownBlock → wpList Try.prog ops Q rest (a.put o.dst v') w') : wpList Try.prog ops Q (o :: rest) a w := by
  subst hm
  refine wpList_plain hgd fun K hK => ?_
  obtain ⟨v', w', hr, h2, h3⟩ := run_append_us hown (c := c) hR o.type hb hbase
  unfold Oper.wp execOp
  simp only [ho, resolve, invoke, builtin, Sem.run_bind, Sem.run_pure, Result.andThen_ok, List.map_toArray, List.map_cons, List.map_nil, hs, hx, hr]
  exact hK _ _ (h v' w' h2 h3)
/-- The rows that were appended so far: their own list, and each of them. -/
structure Ls (w0 w : World) (v : Value) (n : Nat) (T : List (List Nat)) (more : Nat) (xs : List Value) : Prop where
  own : w.ownsRow w0.heap.size 36 1 v n xs
  row : ∀ i L, i < n → T[i]? = some L → ∃ u, xs[i]? = some u ∧ RowU w u (L ++ [more])
  bel : Below w0.heap.size w0 w
theorem Ls.below {w0 w w' : World} {v : Value} {n : Nat} {T : List (List Nat)} {more : Nat} {xs : List Value} (h : Ls w0 w v n T more xs) (b : Below w.heap.size w w') : Ls w0 w' v n T more xs :=
  ⟨own_below h.own b, fun i L hi hL => by obtain ⟨u, h1, h2⟩ := h.row i L hi hL; exact ⟨u, h1, h2.below b⟩, seq_below h.bel b⟩
theorem Ls.grow {w0 w w' : World} {v v' : Value} {n : Nat} {T : List (List Nat)} {more : Nat} {xs : List Value} {u : Value} {L : List Nat} (h : Ls w0 w v n T more xs) (hL : T[n]? = some L) (hu : RowU w u (L ++ [more]))
    (hown : w'.ownsRow w0.heap.size 36 1 v' (n + 1) (xs ++ [u])) (hg : w.grownBy w' v.ownBlock) : Ls w0 w' v' (n + 1) T more (xs ++ [u]) := by
  have hlen : xs.length = n := by have := h.own.1; omega
  have keep : ∀ z K, RowU w z K → RowU w' z K := by
    rintro z K ⟨g, off, cap, cur, h1, h2, h3⟩
    refine ⟨g, off, cap, cur, h1, (hg.block g (lt_of_block h2) fun e => ?_).trans h2, h3⟩
    rcases h.own.2 with ⟨rfl, _⟩ | ⟨g', cap', cur', rfl, _, hh, _⟩
    · cases e
    · obtain rfl : g = g' := by simpa [Value.ownBlock] using e
      rw [h2] at hh
      simp only [Option.some.injEq, Obj.cells.injEq] at hh
      exact absurd hh.2.1 (by decide)
  refine ⟨hown, fun i K hi hK => ?_, ?_⟩
  · by_cases hin : i < n
    · obtain ⟨z, h1, h2⟩ := h.row i K hin hK
      exact ⟨z, by rw [List.getElem?_append_left (by omega)]; exact h1, keep _ _ h2⟩
    · obtain rfl : i = n := by omega
      rw [hL] at hK
      simp only [Option.some.injEq] at hK
      subst hK
      exact ⟨u, by rw [List.getElem?_append_right (by omega), hlen]; simp, keep _ _ hu⟩
  · exact below_grown h.bel hg (fun x hx => (h.own.lt x hx).1) h.bel.size

end Go.Proofs.Ytfllkacebhcbdaa
