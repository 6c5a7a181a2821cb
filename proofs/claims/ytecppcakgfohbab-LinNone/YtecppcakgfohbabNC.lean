/- The model as it lies in the heap. -/
import Derived.Test.YtecppcakgfohbabNZ
namespace Go.Proofs.Ytecppcakgfohbab
open Go.RowKit

/-- A config. -/
structure Cg where
  s : Int
  a : Int
  c : Nat
  d : Int
  g : Int
  k : Int
/-- How a model lies. -/
structure Md where
  vN : Value
  rows : List Value
  Bc : Nat
  bG : Nat
  bk : Nat → Nat
  ck : Nat → Value
  cpC : Nat
  xC : Array Value
/-- The clients' cells, and what room there is behind them. -/
def clC (x : Array Value) (bk : Nat → Nat) (ck : Nat → Value) (wk : Nat → Nat) (c : Nat) : Array Value := (Array.ofFn (n := 3 * c) fun q => if q.1 % 3 = 0 then Value.map (some (bk (q.1 / 3))) else if q.1 % 3 = 1 then Value.int .u64 (wk (q.1 / 3) : Nat) else ck (q.1 / 3)) ++ x
theorem clC_at (x : Array Value) (bk : Nat → Nat) (ck : Nat → Value) (wk : Nat → Nat) (c q : Nat) : (clC x bk ck wk c)[q]? = if q < 3 * c then some (if q % 3 = 0 then Value.map (some (bk (q / 3))) else if q % 3 = 1 then Value.int .u64 (wk (q / 3) : Nat) else ck (q / 3)) else x[q - 3 * c]? := by
  unfold clC
  rw [Array.getElem?_append, Array.size_ofFn, Array.getElem?_ofFn]
  by_cases h : q < 3 * c
  · rw [if_pos h, dif_pos h, if_pos h]
  · rw [if_neg h, if_neg h]
theorem clC_size (x : Array Value) (bk : Nat → Nat) (ck : Nat → Value) (wk : Nat → Nat) (c : Nat) : (clC x bk ck wk c).size = 3 * c + x.size := by simp [clC]
theorem clC_walk (x : Array Value) (bk : Nat → Nat) (ck : Nat → Value) (wk : Nat → Nat) {c k : Nat} (hk : k < c) (a : Nat) : (clC x bk ck wk c).setIfInBounds (3 * k + 1) (.int .u64 (a : Nat)) = clC x bk ck (fun i => if i = k then a else wk i) c := by
  apply Array.ext_getElem?
  intro q
  rw [Array.getElem?_setIfInBounds, clC_at, clC_at, clC_size]
  by_cases e : 3 * k + 1 = q
  · subst e
    rw [if_pos rfl, if_pos (by omega), if_pos (by omega), if_neg (by omega), if_pos (by omega), if_pos (by omega)]
  · rw [if_neg e]
    by_cases hq : q < 3 * c
    · rw [if_pos hq, if_pos hq]
      by_cases h0 : q % 3 = 0
      · rw [if_pos h0, if_pos h0]
      · rw [if_neg h0, if_neg h0]
        by_cases h1 : q % 3 = 1
        · rw [if_pos h1, if_pos h1, if_neg (by omega)]
        · rw [if_neg h1, if_neg h1]
    · rw [if_neg hq, if_neg hq]
theorem clC_come (x : Array Value) (bk : Nat → Nat) (ck : Nat → Value) (wk : Nat → Nat) {c k : Nat} (hk : k < c) (v : Value) : (clC x bk ck wk c).setIfInBounds (3 * k + 2) v = clC x bk (fun i => if i = k then v else ck i) wk c := by
  apply Array.ext_getElem?
  intro q
  rw [Array.getElem?_setIfInBounds, clC_at, clC_at, clC_size]
  by_cases e : 3 * k + 2 = q
  · subst e
    rw [if_pos rfl, if_pos (by omega), if_pos (by omega), if_neg (by omega), if_neg (by omega), if_pos (by omega)]
  · rw [if_neg e]
    by_cases hq : q < 3 * c
    · rw [if_pos hq, if_pos hq]
      by_cases h0 : q % 3 = 0
      · rw [if_pos h0, if_pos h0]
      · rw [if_neg h0, if_neg h0]
        by_cases h1 : q % 3 = 1
        · rw [if_pos h1, if_pos h1]
        · rw [if_neg h1, if_neg h1, if_neg (by omega)]
    · rw [if_neg hq, if_neg hq]
theorem clC_congr {x : Array Value} {bk bk' : Nat → Nat} {ck ck' : Nat → Value} {wk wk' : Nat → Nat} {c : Nat} (h1 : ∀ i, i < c → bk i = bk' i) (h2 : ∀ i, i < c → ck i = ck' i) (h3 : ∀ i, i < c → wk i = wk' i) : clC x bk ck wk c = clC x bk' ck' wk' c := by
  apply Array.ext_getElem?
  intro q
  rw [clC_at, clC_at]
  by_cases hq : q < 3 * c
  · rw [if_pos hq, if_pos hq, h1 _ (by omega), h2 _ (by omega), h3 _ (by omega)]
  · rw [if_neg hq, if_neg hq]
structure MdOk (w : World) (B : Nat) (L : Nat → Prop) (C : Cg) (n : Nat) (X : Sx) (m : Md) : Prop where
  nc : X.W.length = C.c
  head : w.heap[B]? = some (.cells #[.int .i64 C.s, .int .i64 C.a, .int .i64 (C.c : Nat), .int .i64 C.d, .int .i64 C.g, .int .i64 C.k, m.vN, .slice (some ⟨m.Bc, 0, none⟩) C.c m.cpC, .map (some m.bG)] 80 (0, 0))
  cl : w.heap[m.Bc]? = some (.cells (clC m.xC m.bk m.ck (fun k => wkF X k) C.c) 83 (0, 0))
  nodes : w.ownsRow 0 25 1 m.vN X.F.length m.rows
  row : ∀ (i : Nat) K r, X.F[i]? = some K → m.rows[i]? = some r → IsZ w r K
  dis : ∀ (i j : Nat) r r' g, m.rows[i]? = some r → m.rows[j]? = some r' → r.ownBlock = some g → r'.ownBlock = some g → i = j
  hs : ∀ k, k < C.c → IsHd w (m.bk k) n k X.H
  gv : IsGv w m.bG n X.G
  ms : ∀ k, k < C.c → IsZ w (m.ck k) (cmF X k)
  d0 : ∀ r ∈ m.rows, ∀ g, r.ownBlock = some g → ∀ k, k < C.c → (m.ck k).ownBlock ≠ some g
  mb : (∀ i j, i < C.c → j < C.c → m.bk i = m.bk j → i = j) ∧ ∀ k, k < C.c → m.bk k ≠ m.bG
  LB : L B ∧ L m.Bc ∧ (∀ k, k < C.c → L (m.bk k)) ∧ L m.bG
  LN : ∀ g, m.vN.ownBlock = some g → L g
  LR : ∀ r ∈ m.rows, ∀ g, r.ownBlock = some g → L g
  LM : ∀ k, k < C.c → ∀ g, (m.ck k).ownBlock = some g → L g
/-- A model in a block, its own blocks L, with at most n handles ever given. -/
def IsM (w : World) (B : Nat) (L : Nat → Prop) (C : Cg) (n : Nat) (X : Sx) : Prop := ∃ m, MdOk w B L C n X m
theorem own_kept {w w' : World} {base e size n : Nat} {v : Value} {xs : List Value} (h : w.ownsRow base e size v n xs) (k : ∀ g, v.ownBlock = some g → w'.heap[g]? = w.heap[g]?) : w'.ownsRow base e size v n xs := by
  refine ⟨h.1, ?_⟩
  rcases h.2 with hn | ⟨g, cap, cur, rfl, hb, hgg, rest⟩
  · exact .inl hn
  · exact .inr ⟨g, cap, cur, rfl, hb, (k g rfl).trans hgg, rest⟩
theorem MdOk.kept {w w' : World} {B : Nat} {L : Nat → Prop} {C : Cg} {n : Nat} {X : Sx} {m : Md} (h : MdOk w B L C n X m) (k : ∀ i, i < w.heap.size → L i → w'.heap[i]? = w.heap[i]?) : MdOk w' B L C n X m where
  nc := h.nc
  head := (k B (lt_of_block h.head) h.LB.1).trans h.head
  cl := (k _ (lt_of_block h.cl) h.LB.2.1).trans h.cl
  nodes := own_kept h.nodes fun g hg => k g (h.nodes.lt g hg).2 (h.LN g hg)
  row := fun i K r hK hr => (h.row i K r hK hr).kept fun g hg => k g ((h.row i K r hK hr).lt hg) (h.LR r (List.mem_of_getElem? hr) g hg)
  dis := h.dis
  hs := fun j hj => (h.hs j hj).kept (k _ (h.hs j hj).lt (h.LB.2.2.1 j hj))
  gv := h.gv.kept (k _ h.gv.lt h.LB.2.2.2)
  ms := fun j hj => (h.ms j hj).kept fun g hg => k g ((h.ms j hj).lt hg) (h.LM j hj g hg)
  d0 := h.d0
  mb := h.mb
  LB := h.LB
  LN := h.LN
  LR := h.LR
  LM := h.LM
theorem MdOk.below {w w' : World} {B : Nat} {L : Nat → Prop} {C : Cg} {n : Nat} {X : Sx} {m : Md} (h : MdOk w B L C n X m) (b : Below w.heap.size w w') : MdOk w' B L C n X m := h.kept fun i hi _ => b.block i hi
theorem MdOk.up {w : World} {B : Nat} {L L' : Nat → Prop} {C : Cg} {n : Nat} {X : Sx} {m : Md} (h : MdOk w B L C n X m) (hL : ∀ i, L i → L' i) : MdOk w B L' C n X m :=
  { h with LB := ⟨hL _ h.LB.1, hL _ h.LB.2.1, fun k hk => hL _ (h.LB.2.2.1 k hk), hL _ h.LB.2.2.2⟩, LN := fun g hg => hL _ (h.LN g hg), LR := fun r hr g hg => hL _ (h.LR r hr g hg), LM := fun k hk g hg => hL _ (h.LM k hk g hg) }
theorem IsM.below {w w' : World} {B : Nat} {L : Nat → Prop} {C : Cg} {n : Nat} {X : Sx} (h : IsM w B L C n X) (b : Below w.heap.size w w') : IsM w' B L C n X := by obtain ⟨m, h⟩ := h; exact ⟨m, h.below b⟩
theorem IsM.chg {w w' : World} {B : Nat} {L L2 : Nat → Prop} {C : Cg} {n : Nat} {X : Sx} (h : IsM w B L C n X) (c : Chg L2 w w') (hd : ∀ i, L i → ¬ L2 i) : IsM w' B L C n X := by obtain ⟨m, h⟩ := h; exact ⟨m, h.kept fun i hi hL => c.block i hi (hd i hL)⟩
theorem IsM.up {w : World} {B : Nat} {L L' : Nat → Prop} {C : Cg} {n : Nat} {X : Sx} (h : IsM w B L C n X) (hL : ∀ i, L i → L' i) : IsM w B L' C n X := by obtain ⟨m, h⟩ := h; exact ⟨m, h.up hL⟩
/-- Its own cells. -/
theorem MdOk.cells {w : World} {B : Nat} {L : Nat → Prop} {C : Cg} {n : Nat} {X : Sx} {m : Md} (h : MdOk w B L C n X m) : w.cell? ⟨B, 0, none⟩ = some (.int .i64 C.s) ∧ w.cell? ⟨B, 1, none⟩ = some (.int .i64 C.a) ∧ w.cell? ⟨B, 2, none⟩ = some (.int .i64 (C.c : Nat)) ∧ w.cell? ⟨B, 3, none⟩ = some (.int .i64 C.d) ∧ w.cell? ⟨B, 4, none⟩ = some (.int .i64 C.g) ∧ w.cell? ⟨B, 5, none⟩ = some (.int .i64 C.k) ∧ w.cell? ⟨B, 6, none⟩ = some m.vN ∧ w.cell? ⟨B, 7, none⟩ = some (.slice (some ⟨m.Bc, 0, none⟩) C.c m.cpC) ∧ w.cell? ⟨B, 8, none⟩ = some (.map (some m.bG)) := by
  have h' := h.head
  simp [World.cell?, h']
/-- A client's cells. -/
theorem MdOk.kc {w : World} {B : Nat} {L : Nat → Prop} {C : Cg} {n : Nat} {X : Sx} {m : Md} (h : MdOk w B L C n X m) {k : Nat} (hk : k < C.c) :
    w.cell? ⟨m.Bc, 3 * k, none⟩ = some (.map (some (m.bk k))) ∧ w.cell? ⟨m.Bc, 3 * k + 1, none⟩ = some (.int .u64 (wkF X k : Nat)) ∧ w.cell? ⟨m.Bc, 3 * k + 2, none⟩ = some (m.ck k) := by
  have h' := h.cl
  refine ⟨?_, ?_, ?_⟩
  · simp only [World.cell?, h']
    show (clC _ _ _ _ _)[3 * k]? = _
    rw [clC_at, if_pos (by omega), if_pos (by omega), show 3 * k / 3 = k by omega]
  · simp only [World.cell?, h']
    show (clC _ _ _ _ _)[3 * k + 1]? = _
    rw [clC_at, if_pos (by omega), if_neg (by omega), if_pos (by omega), show (3 * k + 1) / 3 = k by omega]
  · simp only [World.cell?, h']
    show (clC _ _ _ _ _)[3 * k + 2]? = _
    rw [clC_at, if_pos (by omega), if_neg (by omega), if_neg (by omega), show (3 * k + 2) / 3 = k by omega]
theorem MdOk.vN {w : World} {B : Nat} {L : Nat → Prop} {C : Cg} {n : Nat} {X : Sx} {m : Md} (h : MdOk w B L C n X m) : ∃ ad cp, m.vN = .slice ad X.F.length cp := own_form h.nodes
/-- A node's row. -/
theorem MdOk.node {w : World} {B : Nat} {L : Nat → Prop} {C : Cg} {n : Nat} {X : Sx} {m : Md} (h : MdOk w B L C n X m) {ad : Option Addr} {nF cp : Nat} (hv : m.vN = .slice ad nF cp) {p : Nat} {K : List Int} (hp : X.F[p]? = some K) :
    ∃ gN ar cr, ad = some ⟨gN, 0, none⟩ ∧ w.cell? ⟨gN, p, none⟩ = some (.slice ar K.length cr) ∧ m.rows[p]? = some (.slice ar K.length cr) ∧ (∀ (i : Nat) x, K[i]? = some x → ∃ gr or, ar = some ⟨gr, or, none⟩ ∧ w.cell? ⟨gr, or + i, none⟩ = some (.int .i64 x)) := by
  have hpl : p < X.F.length := (List.getElem?_eq_some_iff.1 hp).1
  have hrl : m.rows.length = X.F.length := by have := h.nodes.1; omega
  obtain ⟨r, hr⟩ : ∃ r, m.rows[p]? = some r := ⟨_, List.getElem?_eq_getElem (by omega)⟩
  have hz := h.row p K r hp hr
  obtain ⟨ar, cr, rfl, _, hne⟩ := hz.form
  rcases h.nodes.2 with ⟨_, h0⟩ | ⟨g, cap, cur, hv2, _, hh, _, _, _, h5⟩
  · omega
  · rw [hv] at hv2
    simp only [Value.slice.injEq] at hv2
    obtain ⟨rfl, rfl, rfl⟩ := hv2
    refine ⟨g, ar, cr, rfl, ?_, hr, fun i x hx => ?_⟩
    · rw [← h5, Nat.mul_one, List.getElem?_take, if_pos hpl] at hr
      simp only [World.cell?, hh]
      simpa using hr
    · have hi : i < K.length := (List.getElem?_eq_some_iff.1 hx).1
      obtain ⟨gr, or, rfl⟩ := hne (by intro e; rw [e] at hi; simp at hi)
      refine ⟨gr, or, rfl, ?_⟩
      rw [hz.cell i hi, List.getD_eq_getElem?_getD, hx]
      rfl
theorem MdOk.rd {w : World} {B : Nat} {L : Nat → Prop} {C : Cg} {n : Nat} {X : Sx} {m : Md} (h : MdOk w B L C n X m) {gN nF cp gr or lk cr p i : Nat} {K : List Int} {y : Int} (hv : m.vN = .slice (some ⟨gN, 0, none⟩) nF cp) (hr : m.rows[p]? = some (.slice (some ⟨gr, or, none⟩) lk cr)) (hp : X.F[p]? = some K) (hy : K[i]? = some y) :
    w.cell? ⟨gN, p, none⟩ = some (.slice (some ⟨gr, or, none⟩) lk cr) ∧ w.cell? ⟨gr, or + i, none⟩ = some (.int .i64 y) := by
  obtain ⟨ad, cp', hv'⟩ := h.vN
  have e1 := hv.symm.trans hv'
  simp only [Value.slice.injEq] at e1
  obtain ⟨rfl, hnF, rfl⟩ := e1
  subst hnF
  obtain ⟨gN', ar, cr', e2, z0, hr', hz⟩ := h.node hv hp
  simp only [Option.some.injEq, Addr.mk.injEq, and_true] at e2
  subst e2
  rw [hr] at hr'
  have e3 := Option.some.inj hr'
  rw [← e3] at z0
  obtain ⟨gr', or', e4, z1⟩ := hz i y hy
  simp only [Value.slice.injEq] at e3
  rw [← e3.1] at e4
  simp only [Option.some.injEq, Addr.mk.injEq, and_true] at e4
  obtain ⟨rfl, rfl⟩ := e4
  exact ⟨z0, z1⟩
end Go.Proofs.Ytecppcakgfohbab
