/- What can be reached: as lists, and the model's walk. -/
import Derived.Test.YtecppcakgfohbabNH
namespace Go.Proofs.Ytecppcakgfohbab
open Go.RowKit

def addR (l : List Int) (x : Int) : List Int := if x = -1 ∨ x ∈ l then l else l ++ [x]
def rowR (l K : List Int) : List Int := K.foldl addR l
theorem addR_le (l : List Int) (x : Int) : l.length ≤ (addR l x).length := by
  unfold addR
  split
  · exact Nat.le_refl _
  · simp
theorem rowR_le : ∀ (l K : List Int), l.length ≤ (rowR l K).length
  | _, [] => Nat.le_refl _
  | l, x :: K => Nat.le_trans (addR_le l x) (rowR_le (addR l x) K)
/-- The list behind so many of its own elements. -/
def rchR (F : List (List Int)) (l0 : List Int) : Nat → List Int
  | 0 => l0
  | i + 1 => if i < (rchR F l0 i).length then rowR (rchR F l0 i) (F.getD ((rchR F l0 i).getD i 0).toNat []) else rchR F l0 i
def reachF (X : Sx) (p : Int) : List Int := rchR X.F [p] X.F.length
structure ROk (n : Nat) (l : List Int) : Prop where
  nd : l.Nodup
  rg : ∀ x ∈ l, 0 ≤ x ∧ x < n
theorem nodup_len : ∀ (n : Nat) (l : List Int), l.Nodup → (∀ x ∈ l, 0 ≤ x ∧ x < n) → l.length ≤ n
  | 0, l, _, h => by
    cases l with
    | nil => exact Nat.le_refl _
    | cons x l => have := h x (List.mem_cons_self ..); omega
  | n + 1, l, hd, h => by
    by_cases hn : ((n : Nat) : Int) ∈ l
    · have h1 := nodup_len n (l.erase (n : Int)) (hd.erase _) (fun x hx => by
        obtain ⟨h2, h3⟩ := (List.Nodup.mem_erase_iff hd).1 hx
        have := h x h3
        omega)
      rw [List.length_erase_of_mem hn] at h1
      omega
    · have := nodup_len n l hd (fun x hx => by
        have h1 := h x hx
        have : x ≠ n := fun e => hn (e ▸ hx)
        omega)
      omega
theorem ROk.len {n : Nat} {l : List Int} (h : ROk n l) : l.length ≤ n := nodup_len n l h.nd h.rg
theorem addR_ok {n : Nat} {l : List Int} {x : Int} (h : ROk n l) (hx : -1 ≤ x ∧ x < n) : ROk n (addR l x) := by
  unfold addR
  by_cases hc : x = -1 ∨ x ∈ l
  · rw [if_pos hc]; exact h
  · rw [if_neg hc]
    refine ⟨?_, fun y hy => ?_⟩
    · rw [List.nodup_append]
      refine ⟨h.nd, by simp, fun a ha b hb e => ?_⟩
      obtain rfl := List.mem_singleton.1 hb
      exact hc (.inr (e ▸ ha))
    · rcases List.mem_append.1 hy with hy | hy
      · exact h.rg y hy
      · obtain rfl := List.mem_singleton.1 hy
        have : y ≠ -1 := fun e => hc (.inl e)
        omega
theorem rowR_ok {n : Nat} : ∀ {K l : List Int}, ROk n l → (∀ x ∈ K, -1 ≤ x ∧ x < n) → ROk n (rowR l K)
  | [], _, h, _ => h
  | x :: K, _, h, hK => rowR_ok (K := K) (addR_ok h (hK x (List.mem_cons_self ..))) fun y hy => hK y (List.mem_cons_of_mem _ hy)
theorem rowR_take {l K : List Int} {j : Nat} {x : Int} (hx : K[j]? = some x) : rowR l (K.take (j + 1)) = addR (rowR l (K.take j)) x := by
  unfold rowR
  rw [List.take_add_one, hx, List.foldl_append]
  rfl
theorem rchR_ok {F : List (List Int)} (hF : ∀ K ∈ F, ∀ x ∈ K, -1 ≤ x ∧ x < F.length) {l0 : List Int} (h0 : ROk F.length l0) : ∀ i, ROk F.length (rchR F l0 i)
  | 0 => h0
  | i + 1 => by
    have ih := rchR_ok hF h0 i
    unfold rchR
    split
    · refine rowR_ok ih fun x hx => ?_
      rw [List.getD_eq_getElem?_getD] at hx
      cases hK : F[((rchR F l0 i).getD i 0).toNat]? with
      | none => rw [hK] at hx; cases hx
      | some K => rw [hK] at hx; exact hF K (List.mem_of_getElem? hK) x hx
    · exact ih
theorem rchR_still {F : List (List Int)} {l0 : List Int} {i : Nat} (h : (rchR F l0 i).length = i) : ∀ d, rchR F l0 (i + d) = rchR F l0 i
  | 0 => rfl
  | d + 1 => by
    have ih := rchR_still h d
    show (if i + d < (rchR F l0 (i + d)).length then _ else rchR F l0 (i + d)) = _
    rw [ih, if_neg (by omega)]
theorem rchR_step {F : List (List Int)} {l0 : List Int} {i : Nat} {s : Int} {K : List Int} (hs : (rchR F l0 i)[i]? = some s) (hK : F[s.toNat]? = some K) : rchR F l0 (i + 1) = rowR (rchR F l0 i) K := by
  have hlt := (List.getElem?_eq_some_iff.1 hs).1
  show (if i < (rchR F l0 i).length then rowR (rchR F l0 i) (F.getD ((rchR F l0 i).getD i 0).toNat []) else _) = _
  rw [if_pos hlt, List.getD_eq_getElem?_getD (l := rchR F l0 i), hs]
  show rowR _ (F.getD s.toNat []) = _
  rw [List.getD_eq_getElem?_getD, hK]
  rfl
/-- What a walk through fields needs. -/
structure Sx.Fl (N : Nat) (X : Sx) : Prop where
  field : ∀ L ∈ X.F, ∀ x ∈ L, -1 ≤ x ∧ x < X.F.length
  nF : X.F.length ≤ N
  row : ∀ L ∈ X.F, L.length ≤ 8
theorem Sx.Inv.fl {N : Nat} {X : Sx} (h : X.Inv N) : X.Fl N := ⟨h.ok.field, h.nF, h.row⟩
theorem reach_end {X : Sx} {p : Int} {N : Nat} (iv : X.Fl N) (hp : 0 ≤ p ∧ p < X.F.length) {i : Nat} (h : (rchR X.F [p] i).length = i) : reachF X p = rchR X.F [p] i := by
  have ok := rchR_ok iv.field (l0 := [p]) ⟨by simp, fun x hx => by obtain rfl := List.mem_singleton.1 hx; exact hp⟩ i
  have hl := ok.len
  unfold reachF
  obtain ⟨d, hd⟩ : ∃ d, X.F.length = i + d := ⟨X.F.length - i, by omega⟩
  rw [hd]
  exact rchR_still h d
theorem reach_ok {X : Sx} {p : Int} {N : Nat} (iv : X.Fl N) (hp : 0 ≤ p ∧ p < X.F.length) : ROk X.F.length (reachF X p) :=
  rchR_ok iv.field ⟨by simp, fun x hx => by obtain rfl := List.mem_singleton.1 hx; exact hp⟩ _

/-- The nodes that were met, as a map. -/
def IsMt (w : World) (b n : Nat) (l : List Int) : Prop :=
  ∃ D, w.ownsMap (H := Unit) Try.prog 3 unitElem b n D ∧ ∀ x : Int, (Lit.int .i64 x).wf = true → Maps.has D (.int .i64 x) = decide (x ∈ l)
theorem IsMt.lt {w : World} {b n : Nat} {l : List Int} (h : IsMt w b n l) : b < w.heap.size := by obtain ⟨D, h, _⟩ := h; exact h.lt
theorem IsMt.map {w : World} {b n : Nat} {l : List Int} (h : IsMt w b n l) : ∃ es c, w.heap[b]? = some (.map es c) := by obtain ⟨D, ⟨es, c, h, _⟩, _⟩ := h; exact ⟨es, c, h⟩
theorem IsMt.kept {w w' : World} {b n : Nat} {l : List Int} (h : IsMt w b n l) (e : w'.heap[b]? = w.heap[b]?) : IsMt w' b n l := by
  obtain ⟨D, ⟨es, c, h1, h2⟩, h3⟩ := h
  exact ⟨D, ⟨es, c, e.trans h1, h2⟩, h3⟩
theorem IsMt.made (w : World) : IsMt (w.alloc (.map #[] 0)) w.heap.size 0 [] := ⟨_, World.ownsMap_made _ _ _ _, fun _ _ => rfl⟩
theorem IsMt.look {w : World} {b n : Nat} {l : List Int} (h : IsMt w b n l) {x : Int} (hx : (Lit.int .i64 x).wf = true) :
    (Instr.lookup 117 (.map (some b)) (.int .i64 x) true).run Try.prog w = .ok (.tuple #[.agg #[], .bool (decide (x ∈ l))]) w := by
  obtain ⟨D, h1, h3⟩ := h
  obtain ⟨v, ps, hrun, hv⟩ := h1.look_ok Try.kI Try.underlying117 (zeroE w) unitElem_mk (Maps.keyOf_int_mk Try.underlying3 hx)
  obtain ⟨rfl, _⟩ := unitElem_inv hv
  rw [hrun, h3 x hx]
theorem IsMt.add {w : World} {b n : Nat} {l : List Int} (h : IsMt w b n l) (hn : n < 9223372036854775807) {x : Int} (hx : (Lit.int .i64 x).wf = true) :
    ∃ w', (Instr.mapUpdate 117 (.map (some b)) (.int .i64 x) (.agg #[])).run Try.prog w = .ok () w' ∧ IsMt w' b (n + 1) (l ++ [x]) ∧ w.grownBy w' (some b) := by
  obtain ⟨D, h1, h3⟩ := h
  obtain ⟨w', hr, h4, h5⟩ := h1.update Try.kI Try.underlying117 (by unfold maxLen; omega) (Maps.keyOf_int_mk Try.underlying3 hx) unitElem_mk
  have hm := h1.isMap
  have hk : WideAt.IsKeyLit (.int .i64 x) := trivial
  refine ⟨w', hr, ⟨_, h4, fun p hp => ?_⟩, h5⟩
  by_cases e : p = x
  · subst e
    rw [Maps.has_put_same hm hk, decide_eq_true (by simp)]
  · have hne : Lit.int .i64 p ≠ Lit.int .i64 x := fun q => e (by injection q)
    rw [Maps.has_put_other hne, h3 p hp]
    simp [e]
/-- The walk under way: the row, and what was met. -/
structure Rq (w wr : World) (u : Value) (l : List Int) (b n : Nat) (l2 : List Int) : Prop where
  own : IsZ wr u l
  ob : ∀ g, u.ownBlock = some g → w.heap.size ≤ g
  mp : IsMt wr b n l2
  mb : w.heap.size ≤ b
  bel : Below w.heap.size w wr
theorem Rq.below {w wr wr' : World} {u : Value} {l l2 : List Int} {b n : Nat} (h : Rq w wr u l b n l2) (k : Below wr.heap.size wr wr') : Rq w wr' u l b n l2 :=
  ⟨h.own.below k, h.ob, h.mp.kept (k.block _ h.mp.lt), h.mb, seq_below h.bel k⟩
theorem Rq.mark {w wr wr' : World} {u : Value} {l l2 l3 : List Int} {b n n' : Nat} (h : Rq w wr u l b n l2) (hm : IsMt wr' b n' l3) (g : wr.grownBy wr' (some b)) : Rq w wr' u l b n' l3 :=
  ⟨h.own.kept fun q hq => g.block q (h.own.lt hq) fun e => by obtain ⟨c, hc⟩ := h.own.cells hq; exact ne_map hc h.mp.map (Option.some.inj e), h.ob, hm, h.mb, below_grown h.bel g (fun x hx => by obtain rfl := Option.some.inj hx; exact h.mb) h.bel.size⟩
theorem Rq.app {w wr wr' : World} {u u' : Value} {l l' l2 : List Int} {b n : Nat} (h : Rq w wr u l b n l2) (hz : IsZ wr' u' l') (g : wr.grownBy wr' u.ownBlock) (ho : u'.ownBlock = u.ownBlock ∨ ∃ g, u'.ownBlock = some g ∧ wr.heap.size ≤ g) : Rq w wr' u' l' b n l2 :=
  ⟨hz, fun q hq => by
    rcases ho with e | ⟨g', e, hg'⟩
    · exact h.ob q (e ▸ hq)
    · rw [e] at hq; obtain rfl := Option.some.inj hq; exact Nat.le_trans h.bel.size hg',
   h.mp.kept (g.block b h.mp.lt fun e => by obtain ⟨c, hc⟩ := h.own.cells e.symm; exact ne_map hc h.mp.map rfl), h.mb, below_grown h.bel g (fun x hx => h.ob x hx) h.bel.size⟩
end Go.Proofs.Ytecppcakgfohbab
