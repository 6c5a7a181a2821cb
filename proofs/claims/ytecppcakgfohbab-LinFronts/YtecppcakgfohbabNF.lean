/- A model behind each of its writes: no walk in sight. -/
import Derived.Test.YtecppcakgfohbabNE
namespace Go.Proofs.Ytecppcakgfohbab
open Go.RowKit

/-- A client as its methods see it. -/
structure Ck (w : World) (Bc o n : Nat) (k : Nat) (X : Sx) (b : Nat) (c : Value) : Prop where
  y0 : w.cell? ⟨Bc, o, none⟩ = some (.map (some b))
  y1 : w.cell? ⟨Bc, o + 1, none⟩ = some (.int .u64 (wkF X k : Nat))
  y2 : w.cell? ⟨Bc, o + 2, none⟩ = some c
  lt : Bc < w.heap.size
  hd : IsHd w b n k X.H
  z : IsZ w c (cmF X k)
theorem Ck.below {w w' : World} {Bc o n k b : Nat} {X : Sx} {c : Value} (h : Ck w Bc o n k X b c) (bl : Below w.heap.size w w') : Ck w' Bc o n k X b c :=
  ⟨(bl.cell (p := ⟨Bc, o, none⟩) h.lt).trans h.y0, (bl.cell (p := ⟨Bc, o + 1, none⟩) h.lt).trans h.y1, (bl.cell (p := ⟨Bc, o + 2, none⟩) h.lt).trans h.y2, Nat.lt_of_lt_of_le h.lt bl.size, h.hd.kept (bl.block _ h.hd.lt), h.z.below bl⟩
theorem MdOk.cq {w : World} {B : Nat} {L : Nat → Prop} {C : Cg} {n : Nat} {X : Sx} {m : Md} (h : MdOk w B L C n X m) {k : Nat} (hk : k < C.c) : Ck w m.Bc (3 * k) n k X (m.bk k) (m.ck k) := by
  obtain ⟨y0, y1, y2⟩ := h.kc hk
  exact ⟨y0, y1, y2, lt_of_block h.cl, h.hs k hk, h.ms k hk⟩

theorem ne_map {w : World} {i j : Nat} {c : Array Value} {t : TypeId} {f : Nat × Nat} (h : w.heap[i]? = some (.cells c t f)) (k : ∃ es c, w.heap[j]? = some (.map es c)) : i ≠ j := fun e => by obtain ⟨es, q, k⟩ := k; rw [e, k] at h; cases h
theorem ne_cells {w : World} {i j : Nat} {c c' : Array Value} {t t' : TypeId} {f f' : Nat × Nat} (h : w.heap[i]? = some (.cells c t f)) (k : w.heap[j]? = some (.cells c' t' f')) (ht : t ≠ t') : i ≠ j := fun e => by rw [e, k] at h; simp only [Option.some.injEq, Obj.cells.injEq] at h; exact ht h.2.1.symm
theorem IsZ.cells {w : World} {v : Value} {xs : List Int} (h : IsZ w v xs) {g : Nat} (hg : v.ownBlock = some g) : ∃ c, w.heap[g]? = some (.cells c 3 (0, 0)) := by
  rcases h with ⟨rfl, _⟩ | ⟨g', off, cap, cur, rfl, hh, _⟩
  · cases hg
  · obtain rfl : g' = g := by simpa [Value.ownBlock] using hg
    exact ⟨cur, hh⟩
theorem own_cells {w : World} {base e size n : Nat} {v : Value} {xs : List Value} (h : w.ownsRow base e size v n xs) {g : Nat} (hg : v.ownBlock = some g) : ∃ c, w.heap[g]? = some (.cells c e (0, 0)) := by
  rcases h.2 with ⟨rfl, _⟩ | ⟨g', cap, cur, rfl, _, hh, _⟩
  · cases hg
  · obtain rfl : g' = g := by simpa [Value.ownBlock] using hg
    exact ⟨cur, hh⟩

/-- A map of the model's has been written: all else stays. -/
theorem MdOk.mapped {w w' : World} {B : Nat} {L : Nat → Prop} {C : Cg} {n n' : Nat} {X X' : Sx} {m : Md} (h : MdOk w B L C n X m) {b : Nat} (hb : ∃ es c, w.heap[b]? = some (.map es c)) (g : w.grownBy w' (some b))
    (hF : X'.F = X.F) (hW : X'.W = X.W) (hM : X'.M = X.M) (hs : ∀ k, k < C.c → IsHd w' (m.bk k) n' k X'.H) (hG : IsGv w' m.bG n' X'.G) : MdOk w' B L C n' X' m := by
  have ew : (fun k : Nat => wkF X' k) = fun k : Nat => wkF X k := by funext k; unfold wkF; rw [hW]
  have ec : ∀ k : Int, cmF X' k = cmF X k := fun k => by unfold cmF; rw [hM]
  have st : ∀ (i : Nat) (c : Array Value) (t : TypeId) (f : Nat × Nat), w.heap[i]? = some (.cells c t f) → w'.heap[i]? = w.heap[i]? := fun i c t f hc => g.block i (lt_of_block hc) fun e => ne_map hc hb (Option.some.inj e)
  have keepZ : ∀ v xs, IsZ w v xs → IsZ w' v xs := fun v xs hz => hz.kept fun q hq => by obtain ⟨c, hc⟩ := hz.cells hq; exact st q _ _ _ hc
  exact {
    nc := by rw [hW]; exact h.nc
    head := (st _ _ _ _ h.head).trans h.head
    cl := by rw [ew]; exact (st _ _ _ _ h.cl).trans h.cl
    nodes := by rw [hF]; exact own_kept h.nodes fun q hq => by obtain ⟨c, hc⟩ := own_cells h.nodes hq; exact st q _ _ _ hc
    row := fun i K r hK hr => keepZ _ _ (h.row i K r (by rw [← hF]; exact hK) hr)
    dis := h.dis
    hs := hs
    gv := hG
    ms := fun k hk => by rw [ec]; exact keepZ _ _ (h.ms k hk)
    d0 := h.d0
    mb := h.mb
    LB := h.LB
    LN := h.LN
    LR := h.LR
    LM := h.LM }
/-- A handle was given. -/
theorem MdOk.given {w w' : World} {B : Nat} {L : Nat → Prop} {C : Cg} {n : Nat} {X : Sx} {m : Md} (h : MdOk w B L C n X m) {q : Nat} (hg : IsGv w' m.bG (n + 1) (X.G ++ [q])) (g : w.grownBy w' (some m.bG)) : MdOk w' B L C (n + 1) { X with G := X.G ++ [q] } m :=
  h.mapped h.gv.map g rfl rfl rfl
    (fun k hk => ((h.hs k hk).kept (g.block _ (h.hs k hk).lt fun e => h.mb.2 k hk (Option.some.inj e))).other (fun _ => rfl) rfl (Nat.le_succ n)) hg
/-- A client's holds have changed. -/
theorem MdOk.holds {w w' : World} {B : Nat} {L : Nat → Prop} {C : Cg} {n n' : Nat} {X : Sx} {m : Md} (h : MdOk w B L C n X m) (hn : n ≤ n') {k : Nat} (hk : k < C.c) {H' : List Hl} (hd : IsHd w' (m.bk k) n' k H') (g : w.grownBy w' (some (m.bk k)))
    (ho : ∀ k' : Int, k' ≠ (k : Int) → (∀ q, nodeF k' q H' = nodeF k' q X.H) ∧ heldF k' H' = heldF k' X.H) : MdOk w' B L C n' { X with H := H' } m :=
  h.mapped (h.hs k hk).map g rfl rfl rfl
    (fun j hj => by
      by_cases e : j = k
      · subst e; exact hd
      · have o1 := ho (j : Int) (by omega)
        exact ((h.hs j hj).kept (g.block _ (h.hs j hj).lt fun q => e (h.mb.1 j k hj hk (Option.some.inj q)))).other o1.1 o1.2 hn)
    ((h.gv.kept (g.block _ h.gv.lt fun e => h.mb.2 k hk (Option.some.inj e).symm)).mono hn)
theorem add_others {k : Nat} {q : Nat} {nd : Int} (H : List Hl) : ∀ k' : Int, k' ≠ (k : Int) → (∀ p, nodeF k' p (H ++ [⟨k, q, nd⟩]) = nodeF k' p H) ∧ heldF k' (H ++ [⟨k, q, nd⟩]) = heldF k' H := fun k' hk =>
  ⟨fun _ => nodeF_add_other (fun z => hk z.1.symm) H, by rw [heldF_add, if_neg (fun z => hk z.symm)]; rfl⟩
theorem drop_others {k : Nat} {q : Nat} {H : List Hl} (hd : (H.map (·.h)).Nodup) (h0 : 0 ≤ nodeF k q H) : ∀ k' : Int, k' ≠ (k : Int) → (∀ p, nodeF k' p (dropF k q H) = nodeF k' p H) ∧ heldF k' (dropF k q H) = heldF k' H := fun k' hk =>
  ⟨fun _ => by rw [nodeF_drop, if_neg (fun z => hk z.1)], by have := heldF_drop2 (k' := k') hd (nodeF_mem h0); rw [if_neg (fun z => hk z.symm)] at this; omega⟩
theorem MdOk.more {w : World} {B : Nat} {L : Nat → Prop} {C : Cg} {n n' : Nat} {X : Sx} {m : Md} (h : MdOk w B L C n X m) (hn : n ≤ n') : MdOk w B L C n' X m :=
  { h with hs := fun k hk => (h.hs k hk).other (fun _ => rfl) rfl hn, gv := h.gv.mono hn }
theorem MdOk.Lbk {w : World} {B : Nat} {L : Nat → Prop} {C : Cg} {n : Nat} {X : Sx} {m : Md} (h : MdOk w B L C n X m) {k : Nat} (hk : k < C.c) : L (m.bk k) := h.LB.2.2.1 k hk
end Go.Proofs.Ytecppcakgfohbab
