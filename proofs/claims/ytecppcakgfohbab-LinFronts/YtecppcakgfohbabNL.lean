/- A field that is stored. -/
import Derived.Test.YtecppcakgfohbabNK
namespace Go.Proofs.Ytecppcakgfohbab
open Go.RowKit
set_option linter.unusedSimpArgs false
set_option linter.unusedVariables false

/-- A field has been stored. -/
theorem MdOk.put {w : World} {B : Nat} {L : Nat → Prop} {C : Cg} {n : Nat} {X : Sx} {m : Md} (h : MdOk w B L C n X m) {gr or lk cr p i : Nat} {K : List Int} (hr : m.rows[p]? = some (.slice (some ⟨gr, or, none⟩) lk cr)) (hp : X.F[p]? = some K) (hi : i < K.length) (v : Int) :
    MdOk (w.setCell ⟨gr, or + i, none⟩ (.int .i64 v)) B L C n { X with F := setF X.F p i v } m ∧ L gr := by
  have hz := h.row p K _ hp hr
  rcases hz with ⟨h0, _⟩ | ⟨g', off, cap, cur, h1, hh, h2, h3, h4, hc⟩
  · simp only [Value.slice.injEq] at h0; cases h0.1
  simp only [Value.slice.injEq, Option.some.injEq, Addr.mk.injEq] at h1
  obtain ⟨⟨rfl, rfl, -⟩, rfl, rfl⟩ := h1
  have hpl : p < X.F.length := (List.getElem?_eq_some_iff.1 hp).1
  have hgK : X.F.getD p [] = K := by rw [List.getD_eq_getElem?_getD, hp]; rfl
  have st : ∀ (j : Nat), j ≠ gr → (w.setCell ⟨gr, or + i, none⟩ (.int .i64 v)).heap[j]? = w.heap[j]? := fun j hj => Below.heap_setCell _ _ _ _ hj
  have hown : (Value.slice (some ⟨gr, or, none⟩) K.length cr).ownBlock = some gr := rfl
  have nec : ∀ (j : Nat) (c : Array Value) (t : TypeId) (f : Nat × Nat), w.heap[j]? = some (.cells c t f) → t ≠ 3 → j ≠ gr := fun j c t f hj ht => ne_cells hj hh ht
  have nem : ∀ j, (∃ es c, w.heap[j]? = some (.map es c)) → j ≠ gr := fun j hj e => ne_map hh hj e.symm
  have keepM : ∀ (vv : Value) (xs : List Int), IsZ w vv xs → vv.ownBlock ≠ some gr → IsZ (w.setCell ⟨gr, or + i, none⟩ (.int .i64 v)) vv xs := fun vv xs hz hne => hz.kept fun q hq => st q (fun e => hne (by rw [hq, e]))
  have hdr := h.d0 _ (List.mem_of_getElem? hr) gr rfl
  refine ⟨{
    nc := h.nc
    head := (st _ (nec _ _ _ _ h.head (by decide))).trans h.head
    cl := (st _ (nec _ _ _ _ h.cl (by decide))).trans h.cl
    nodes := by
      have e : (setF X.F p i v).length = X.F.length := by unfold setF; rw [List.length_set]
      show World.ownsRow _ 0 _ 1 m.vN (setF X.F p i v).length m.rows
      rw [e]
      exact own_kept h.nodes fun q hq => by obtain ⟨c, hc⟩ := own_cells h.nodes hq; exact st q (nec _ _ _ _ hc (by decide))
    row := fun j K' r hK hr' => by
      have hK' : (X.F.set p ((X.F.getD p []).set i v))[j]? = some K' := hK
      by_cases hj : j = p
      · subst hj
        rw [hgK, List.getElem?_set_self hpl] at hK'
        obtain rfl := Option.some.inj hK'
        rw [hr] at hr'
        obtain rfl := Option.some.inj hr'
        have hput := heap_put (o := or + i) hh (.int .i64 v)
        refine .inr ⟨gr, or, cr, _, by rw [List.length_set], hput, by rw [List.length_set]; exact h2, h3, by simpa using h4, fun q hq => ?_⟩
        rw [List.length_set] at hq
        by_cases hqi : q = i
        · subst hqi
          rw [List.getD_eq_getElem?_getD, List.getElem?_set_self hi]
          rw [Array.getElem?_setIfInBounds_self_of_lt (by omega)]
          rfl
        · rw [Array.getElem?_setIfInBounds_ne (by omega), hc q hq]
          rw [List.getD_eq_getElem?_getD, List.getD_eq_getElem?_getD, List.getElem?_set_ne (by omega)]
      · rw [List.getElem?_set_ne (by omega)] at hK'
        exact keepM _ _ (h.row j K' r hK' hr') fun e => hj (h.dis j p r _ gr hr' hr e rfl)
    dis := h.dis
    hs := fun k hk => (h.hs k hk).kept (st _ (nem _ (h.hs k hk).map))
    gv := h.gv.kept (st _ (nem _ h.gv.map))
    ms := fun k hk => keepM _ _ (h.ms k hk) (hdr k hk)
    d0 := h.d0
    mb := h.mb
    LB := h.LB
    LN := h.LN
    LR := h.LR
    LM := h.LM }, h.LR _ (List.mem_of_getElem? hr) gr rfl⟩
end Go.Proofs.Ytecppcakgfohbab
