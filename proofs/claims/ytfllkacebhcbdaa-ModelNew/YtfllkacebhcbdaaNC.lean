/- The model as it lies in the heap. -/
import Derived.Test.YtfllkacebhcbdaaNZ
namespace Go.Proofs.Ytfllkacebhcbdaa
open Go.RowKit

/-- A config of two clients. -/
structure Cg where
  s : Int
  a : Int
  d : Int
  g : Int
  k : Int
/-- How a model lies. -/
structure Md where
  vN : Value
  rows : List Value
  Bc : Nat
  bG : Nat
  b0 : Nat
  b1 : Nat
  c0 : Value
  c1 : Value
structure MdOk (w : World) (B : Nat) (L : Nat → Prop) (C : Cg) (n : Nat) (X : Sx) (m : Md) : Prop where
  head : w.heap[B]? = some (.cells #[.int .i64 C.s, .int .i64 C.a, .int .i64 2, .int .i64 C.d, .int .i64 C.g, .int .i64 C.k, m.vN, .slice (some ⟨m.Bc, 0, none⟩) 2 2, .map (some m.bG)] 48 (0, 0))
  cl : w.heap[m.Bc]? = some (.cells #[.map (some m.b0), .int .u64 (wkF X 0 : Nat), m.c0, .map (some m.b1), .int .u64 (wkF X 1 : Nat), m.c1] 52 (0, 0))
  nodes : w.ownsRow 0 50 1 m.vN X.F.length m.rows
  row : ∀ (i : Nat) K r, X.F[i]? = some K → m.rows[i]? = some r → IsZ w r K
  dis : ∀ (i j : Nat) r r' g, m.rows[i]? = some r → m.rows[j]? = some r' → r.ownBlock = some g → r'.ownBlock = some g → i = j
  h0 : IsHd w m.b0 n 0 X.H
  h1 : IsHd w m.b1 n 1 X.H
  gv : IsGv w m.bG n X.G
  m0 : IsZ w m.c0 (cmF X 0)
  m1 : IsZ w m.c1 (cmF X 1)
  d0 : ∀ r ∈ m.rows, ∀ g, r.ownBlock = some g → m.c0.ownBlock ≠ some g ∧ m.c1.ownBlock ≠ some g
  mb : m.b0 ≠ m.b1 ∧ m.b0 ≠ m.bG ∧ m.b1 ≠ m.bG
  LB : L B ∧ L m.Bc ∧ L m.b0 ∧ L m.b1 ∧ L m.bG
  LN : ∀ g, m.vN.ownBlock = some g → L g
  LR : ∀ r ∈ m.rows, ∀ g, r.ownBlock = some g → L g
  LM : (∀ g, m.c0.ownBlock = some g → L g) ∧ ∀ g, m.c1.ownBlock = some g → L g
/-- A model in a block, its own blocks L, with at most n handles ever given. -/
def IsM (w : World) (B : Nat) (L : Nat → Prop) (C : Cg) (n : Nat) (X : Sx) : Prop := ∃ m, MdOk w B L C n X m
theorem own_kept {w w' : World} {base e size n : Nat} {v : Value} {xs : List Value} (h : w.ownsRow base e size v n xs) (k : ∀ g, v.ownBlock = some g → w'.heap[g]? = w.heap[g]?) : w'.ownsRow base e size v n xs := by
  refine ⟨h.1, ?_⟩
  rcases h.2 with hn | ⟨g, cap, cur, rfl, hb, hgg, rest⟩
  · exact .inl hn
  · exact .inr ⟨g, cap, cur, rfl, hb, (k g rfl).trans hgg, rest⟩
theorem MdOk.kept {w w' : World} {B : Nat} {L : Nat → Prop} {C : Cg} {n : Nat} {X : Sx} {m : Md} (h : MdOk w B L C n X m) (k : ∀ i, i < w.heap.size → L i → w'.heap[i]? = w.heap[i]?) : MdOk w' B L C n X m where
  head := (k B (lt_of_block h.head) h.LB.1).trans h.head
  cl := (k _ (lt_of_block h.cl) h.LB.2.1).trans h.cl
  nodes := own_kept h.nodes fun g hg => k g (h.nodes.lt g hg).2 (h.LN g hg)
  row := fun i K r hK hr => (h.row i K r hK hr).kept fun g hg => k g ((h.row i K r hK hr).lt hg) (h.LR r (List.mem_of_getElem? hr) g hg)
  dis := h.dis
  h0 := h.h0.kept (k _ h.h0.lt h.LB.2.2.1)
  h1 := h.h1.kept (k _ h.h1.lt h.LB.2.2.2.1)
  gv := h.gv.kept (k _ h.gv.lt h.LB.2.2.2.2)
  m0 := h.m0.kept fun g hg => k g (h.m0.lt hg) (h.LM.1 g hg)
  m1 := h.m1.kept fun g hg => k g (h.m1.lt hg) (h.LM.2 g hg)
  d0 := h.d0
  mb := h.mb
  LB := h.LB
  LN := h.LN
  LR := h.LR
  LM := h.LM
theorem MdOk.below {w w' : World} {B : Nat} {L : Nat → Prop} {C : Cg} {n : Nat} {X : Sx} {m : Md} (h : MdOk w B L C n X m) (b : Below w.heap.size w w') : MdOk w' B L C n X m := h.kept fun i hi _ => b.block i hi
theorem MdOk.up {w : World} {B : Nat} {L L' : Nat → Prop} {C : Cg} {n : Nat} {X : Sx} {m : Md} (h : MdOk w B L C n X m) (hL : ∀ i, L i → L' i) : MdOk w B L' C n X m :=
  { h with LB := ⟨hL _ h.LB.1, hL _ h.LB.2.1, hL _ h.LB.2.2.1, hL _ h.LB.2.2.2.1, hL _ h.LB.2.2.2.2⟩, LN := fun g hg => hL _ (h.LN g hg), LR := fun r hr g hg => hL _ (h.LR r hr g hg), LM := ⟨fun g hg => hL _ (h.LM.1 g hg), fun g hg => hL _ (h.LM.2 g hg)⟩ }
theorem IsM.below {w w' : World} {B : Nat} {L : Nat → Prop} {C : Cg} {n : Nat} {X : Sx} (h : IsM w B L C n X) (b : Below w.heap.size w w') : IsM w' B L C n X := by obtain ⟨m, h⟩ := h; exact ⟨m, h.below b⟩
theorem IsM.chg {w w' : World} {B : Nat} {L L2 : Nat → Prop} {C : Cg} {n : Nat} {X : Sx} (h : IsM w B L C n X) (c : Chg L2 w w') (hd : ∀ i, L i → ¬ L2 i) : IsM w' B L C n X := by obtain ⟨m, h⟩ := h; exact ⟨m, h.kept fun i hi hL => c.block i hi (hd i hL)⟩
theorem IsM.up {w : World} {B : Nat} {L L' : Nat → Prop} {C : Cg} {n : Nat} {X : Sx} (h : IsM w B L C n X) (hL : ∀ i, L i → L' i) : IsM w B L' C n X := by obtain ⟨m, h⟩ := h; exact ⟨m, h.up hL⟩
/-- Its own cells. -/
theorem MdOk.cells {w : World} {B : Nat} {L : Nat → Prop} {C : Cg} {n : Nat} {X : Sx} {m : Md} (h : MdOk w B L C n X m) : w.cell? ⟨B, 0, none⟩ = some (.int .i64 C.s) ∧ w.cell? ⟨B, 1, none⟩ = some (.int .i64 C.a) ∧ w.cell? ⟨B, 2, none⟩ = some (.int .i64 2) ∧ w.cell? ⟨B, 3, none⟩ = some (.int .i64 C.d) ∧ w.cell? ⟨B, 4, none⟩ = some (.int .i64 C.g) ∧ w.cell? ⟨B, 5, none⟩ = some (.int .i64 C.k) ∧ w.cell? ⟨B, 6, none⟩ = some m.vN ∧ w.cell? ⟨B, 7, none⟩ = some (.slice (some ⟨m.Bc, 0, none⟩) 2 2) ∧ w.cell? ⟨B, 8, none⟩ = some (.map (some m.bG)) := by
  have h' := h.head
  simp [World.cell?, h']
/-- A client of two. -/
structure Cl where
  k : Nat
  b : Nat
  wk : Nat
  c : Value
def Md.cl (m : Md) (X : Sx) (k : Nat) : Cl := if k = 0 then ⟨0, m.b0, wkF X 0, m.c0⟩ else ⟨1, m.b1, wkF X 1, m.c1⟩
theorem MdOk.client {w : World} {B : Nat} {L : Nat → Prop} {C : Cg} {n : Nat} {X : Sx} {m : Md} (h : MdOk w B L C n X m) {k : Nat} (hk : k < 2) :
    ∃ b v, w.cell? ⟨m.Bc, 3 * k, none⟩ = some (.map (some b)) ∧ w.cell? ⟨m.Bc, 3 * k + 1, none⟩ = some (.int .u64 (wkF X k : Nat)) ∧ w.cell? ⟨m.Bc, 3 * k + 2, none⟩ = some v ∧ IsHd w b n k X.H ∧ IsZ w v (cmF X k) := by
  have h' := h.cl
  match k, hk with
  | 0, _ => exact ⟨m.b0, m.c0, by simp [World.cell?, h'], by simp [World.cell?, h'], by simp [World.cell?, h'], h.h0, h.m0⟩
  | 1, _ => exact ⟨m.b1, m.c1, by simp [World.cell?, h'], by simp [World.cell?, h'], by simp [World.cell?, h'], h.h1, h.m1⟩
theorem MdOk.vN {w : World} {B : Nat} {L : Nat → Prop} {C : Cg} {n : Nat} {X : Sx} {m : Md} (h : MdOk w B L C n X m) : ∃ ad cp, m.vN = .slice ad X.F.length cp := own_form h.nodes
/-- A node's row. -/
theorem MdOk.node {w : World} {B : Nat} {L : Nat → Prop} {C : Cg} {n : Nat} {X : Sx} {m : Md} (h : MdOk w B L C n X m) {ad : Option Addr} {nF cp : Nat} (hv : m.vN = .slice ad nF cp) {p : Nat} {K : List Int} (hp : X.F[p]? = some K) :
    ∃ gN ar cr, ad = some ⟨gN, 0, none⟩ ∧ w.cell? ⟨gN, p, none⟩ = some (.slice ar K.length cr) ∧ m.rows[p]? = some (.slice ar K.length cr) ∧ (∀ (i : Nat) x, K[i]? = some x → ∃ gr or, ar = some ⟨gr, or, none⟩ ∧ w.cell? ⟨gr, or + i, none⟩ = some (.int .i64 x)) := by
  have hpl : p < X.F.length := (List.getElem?_eq_some_iff.1 hp).1
  have hrl : m.rows.length = X.F.length := by have := h.nodes.1; omega
  obtain ⟨r, hr⟩ : ∃ r, m.rows[p]? = some r := ⟨_, List.getElem?_eq_getElem (by omega)⟩
  have hz := h.row p K r hp hr
  obtain ⟨ar, cr, rfl, _, hne⟩ := hz.form
  rcases h.nodes.2 with ⟨_, h0⟩ | ⟨g, cap, cur, hv2, _, hh, _, _, _, h5⟩
  · omega
  · rw [hv] at hv2
    simp only [Value.slice.injEq] at hv2
    obtain ⟨rfl, rfl, rfl⟩ := hv2
    refine ⟨g, ar, cr, rfl, ?_, hr, fun i x hx => ?_⟩
    · rw [← h5, Nat.mul_one, List.getElem?_take, if_pos hpl] at hr
      simp only [World.cell?, hh]
      simpa using hr
    · have hi : i < K.length := (List.getElem?_eq_some_iff.1 hx).1
      obtain ⟨gr, or, rfl⟩ := hne (by intro e; rw [e] at hi; simp at hi)
      refine ⟨gr, or, rfl, ?_⟩
      rw [hz.cell i hi, List.getD_eq_getElem?_getD, hx]
      rfl
theorem MdOk.rd {w : World} {B : Nat} {L : Nat → Prop} {C : Cg} {n : Nat} {X : Sx} {m : Md} (h : MdOk w B L C n X m) {gN nF cp gr or lk cr p i : Nat} {K : List Int} {y : Int} (hv : m.vN = .slice (some ⟨gN, 0, none⟩) nF cp) (hr : m.rows[p]? = some (.slice (some ⟨gr, or, none⟩) lk cr)) (hp : X.F[p]? = some K) (hy : K[i]? = some y) :
    w.cell? ⟨gN, p, none⟩ = some (.slice (some ⟨gr, or, none⟩) lk cr) ∧ w.cell? ⟨gr, or + i, none⟩ = some (.int .i64 y) := by
  obtain ⟨ad, cp', hv'⟩ := h.vN
  have e1 := hv.symm.trans hv'
  simp only [Value.slice.injEq] at e1
  obtain ⟨rfl, hnF, rfl⟩ := e1
  subst hnF
  obtain ⟨gN', ar, cr', e2, z0, hr', hz⟩ := h.node hv hp
  simp only [Option.some.injEq, Addr.mk.injEq, and_true] at e2
  subst e2
  rw [hr] at hr'
  have e3 := Option.some.inj hr'
  rw [← e3] at z0
  obtain ⟨gr', or', e4, z1⟩ := hz i y hy
  simp only [Value.slice.injEq] at e3
  rw [← e3.1] at e4
  simp only [Option.some.injEq, Addr.mk.injEq, and_true] at e4
  obtain ⟨rfl, rfl⟩ := e4
  exact ⟨z0, z1⟩
end Go.Proofs.Ytfllkacebhcbdaa
