/- The reference's states of layer 17: Error. -/
import Derived.Test.YtecppcakgfohbabMRb
namespace Go.Proofs.Ytecppcakgfohbab
open Go.RowKit

/-- Numbers in a slice that is read. -/
def RdIs (FL : Nat → Prop) (w : World) (ad : Option Addr) (L : List Int) : Prop := ∀ i x, L[i]? = some x → ∃ b off, ad = some ⟨b, off, none⟩ ∧ (b < w.heap.size ∧ ¬ FL b) ∧ w.cell? ⟨b, off + i, none⟩ = some (.int .i64 x)
theorem RdIs.below {FL : Nat → Prop} {w w' : World} {ad : Option Addr} {L : List Int} (h : RdIs FL w ad L) (b : Below w.heap.size w w') : RdIs FL w' ad L := fun i x hx => by
  obtain ⟨g, off, h1, h2, h3⟩ := h i x hx
  exact ⟨g, off, h1, ⟨Nat.lt_of_lt_of_le h2.1 b.size, h2.2⟩, (b.cell (p := ⟨g, off + i, none⟩) h2.1).trans h3⟩
/-- Lists of numbers in a slice that is read. -/
def RdLs (FL : Nat → Prop) (w : World) (ad : Option Addr) (F : List (List Int)) : Prop := ∀ i L, F[i]? = some L → ∃ b off a c, ad = some ⟨b, off, none⟩ ∧ (b < w.heap.size ∧ ¬ FL b) ∧ w.cell? ⟨b, off + i, none⟩ = some (.slice a L.length c) ∧ RdIs FL w a L ∧ L.length < 4611686018427387904
theorem RdLs.below {FL : Nat → Prop} {w w' : World} {ad : Option Addr} {F : List (List Int)} (h : RdLs FL w ad F) (b : Below w.heap.size w w') : RdLs FL w' ad F := fun i L hx => by
  obtain ⟨g, off, a, c, h1, h2, h3, h4, h5⟩ := h i L hx
  exact ⟨g, off, a, c, h1, ⟨Nat.lt_of_lt_of_le h2.1 b.size, h2.2⟩, (b.cell (p := ⟨g, off + i, none⟩) h2.1).trans h3, h4.below b, h5⟩
/-- What a state says. -/
structure Sx where
  F : List (List Int)
  H : List Hl
  W : List Nat
  M : List (List Int)
  G : List Nat
structure StOk (FL : Nat → Prop) (w : World) (S : Sc) (X : Sx) : Prop where
  nF : S.nF = X.F.length
  nH : S.nH = X.H.length
  nW : S.nW = X.W.length
  nM : S.nM = X.M.length
  nG : S.nG = X.G.length
  bF : S.nF < 4611686018427387904
  bH : S.nH < 4611686018427387904
  bW : S.nW < 4611686018427387904
  bM : S.nM < 4611686018427387904
  bG : S.nG < 4611686018427387904
  F : RdLs FL w S.aF X.F
  H : RdHl FL w S.aH X.H
  W : RdUs FL w S.aW X.W
  M : RdLs FL w S.aM X.M
  G : RdUs FL w S.aG X.G
theorem StOk.below {FL : Nat → Prop} {w w' : World} {S : Sc} {X : Sx} (h : StOk FL w S X) (b : Below w.heap.size w w') : StOk FL w' S X :=
  ⟨h.nF, h.nH, h.nW, h.nM, h.nG, h.bF, h.bH, h.bW, h.bM, h.bG, h.F.below b, h.H.below b, h.W.below b, h.M.below b, h.G.below b⟩
/-- Each hold's node is there, each field's too. -/
structure Sx.Ok (X : Sx) : Prop where
  hold : ∀ x ∈ X.H, 0 ≤ x.n ∧ x.n < X.F.length
  field : ∀ L ∈ X.F, ∀ x ∈ L, -1 ≤ x ∧ x < X.F.length
  comes : ∀ L ∈ X.M, ∀ x ∈ L, 0 ≤ x ∧ x < X.F.length
theorem nodeF_lt {X : Sx} (h : X.Ok) (k : Int) (q : Nat) : -1 ≤ nodeF k q X.H ∧ nodeF k q X.H < X.F.length := by
  have key : ∀ L : List Hl, (∀ x ∈ L, 0 ≤ x.n ∧ x.n < X.F.length) → -1 ≤ nodeF k q L ∧ nodeF k q L < X.F.length := by
    intro L
    induction L with
    | nil => intro _; unfold nodeF; omega
    | cons x L ih =>
      intro hL
      unfold nodeF
      have h1 := hL x (List.mem_cons_self ..)
      split
      · omega
      · exact ih fun y hy => hL y (List.mem_cons_of_mem _ hy)
  exact key X.H h.hold
def rowF (X : Sx) (p : Int) : List Int := X.F.getD p.toNat []
def fldF (X : Sx) (p n : Int) : Int := (rowF X p).getD n.toNat (-1)
def wkF (X : Sx) (k : Int) : Nat := X.W.getD k.toNat 0
def cmF (X : Sx) (k : Int) : List Int := X.M.getD k.toNat []
/-- What must be answered, but OK and ErrFull. -/
def errF (ar hd : Int) (X : Sx) (k kd n : Int) (h x y : Nat) : Int :=
  if kd = 1 then (if n < 0 ∨ ar < n then 1 else if (heldF k X.H : Int) < hd then 0 else 5)
  else if kd = 2 then (if nodeF k h X.H < 0 then 2 else if n < 0 ∨ ((rowF X (nodeF k h X.H)).length : Int) ≤ n then 3 else if 0 ≤ fldF X (nodeF k h X.H) n ∧ ¬ (heldF k X.H : Int) < hd then 5 else 0)
  else if kd = 3 then (if nodeF k h X.H < 0 ∨ nodeF k x X.H < 0 then 2 else if n < 0 ∨ ((rowF X (nodeF k h X.H)).length : Int) ≤ n then 3 else 0)
  else if kd = 4 then (if nodeF k h X.H < 0 then 2 else if n < 0 ∨ ((rowF X (nodeF k h X.H)).length : Int) ≤ n then 3 else 0)
  else if kd = 5 then (if nodeF k h X.H < 0 ∨ (x ≠ 0 ∧ nodeF k x X.H < 0) ∨ (y ≠ 0 ∧ nodeF k y X.H < 0) then 2 else if n < 0 ∨ ((rowF X (nodeF k h X.H)).length : Int) ≤ n then 3 else 0)
  else if kd = 6 then (if nodeF k h X.H < 0 then 2 else 0)
  else if kd = 7 then (if nodeF k h X.H < 0 ∨ nodeF k x X.H < 0 then 2 else 0)
  else if kd = 8 then (if nodeF k h X.H < 0 then 2 else if wkF X k ≠ 0 then 7 else 0)
  else if kd = 9 then (if wkF X k = 0 ∨ wkF X k ≠ h ∨ cmF X k = [] then 6 else if (heldF k X.H : Int) < hd then 0 else 5)
  else if kd = 10 then (if wkF X k = 0 ∨ wkF X k ≠ h then 6 else 0)
  else 8

theorem call_cells {w : World} {B : Nat} {kd n : Int} {h x y : Nat} (hq : w.heap[B]? = some (.cells #[.int .i64 kd, .int .i64 n, .int .u64 (h : Nat), .int .u64 (x : Nat), .int .u64 (y : Nat)] 41 (0, 0))) : w.cell? ⟨B, 0, none⟩ = some (.int .i64 kd) ∧ w.cell? ⟨B, 1, none⟩ = some (.int .i64 n) ∧ w.cell? ⟨B, 2, none⟩ = some (.int .u64 (h : Nat)) ∧ w.cell? ⟨B, 3, none⟩ = some (.int .u64 (x : Nat)) ∧ w.cell? ⟨B, 4, none⟩ = some (.int .u64 (y : Nat)) := by simp [World.cell?, hq]
theorem drewN_below {B : Nat} {w w' : World} (h : Below B w w') (m : Nat) : Below B w (w'.drewN m) := ⟨h.os, h.tape, h.output, h.size, h.block⟩
end Go.Proofs.Ytecppcakgfohbab
