/- The reference's states of layer 17: what is read: Node, Held, Fresh. -/
import Derived.Test.YtecppcakgfohbabM0
namespace Go.Proofs.Ytecppcakgfohbab
open Go.RowKit

/-- A state's cells. -/
structure Sc where
  s : Int
  a : Int
  c : Int
  d : Int
  g : Int
  k : Int
  aF : Option Addr
  nF : Nat
  cF : Nat
  aH : Option Addr
  nH : Nat
  cH : Nat
  aW : Option Addr
  nW : Nat
  cW : Nat
  aM : Option Addr
  nM : Nat
  cM : Nat
  aG : Option Addr
  nG : Nat
  cG : Nat
abbrev Sc.v (S : Sc) : Array Value := #[.int .i64 S.s, .int .i64 S.a, .int .i64 S.c, .int .i64 S.d, .int .i64 S.g, .int .i64 S.k, .slice S.aF S.nF S.cF, .slice S.aH S.nH S.cH, .slice S.aW S.nW S.cW, .slice S.aM S.nM S.cM, .slice S.aG S.nG S.cG]
/-- A state in a block. -/
def IsS (w : World) (B : Nat) (S : Sc) : Prop := w.heap[B]? = some (.cells S.v 54 (0, 0))
theorem IsS.new (w : World) (S : Sc) : IsS (w.alloc (.cells S.v 54)) w.heap.size S := new_obj _ _
theorem IsS.below {w w' : World} {B : Nat} {S : Sc} (h : IsS w B S) (b : Below w.heap.size w w') : IsS w' B S := (b.block _ (lt_of_block (show w.heap[B]? = _ from h))).trans h
theorem IsS.cells {w : World} {B : Nat} {S : Sc} (h : IsS w B S) : w.cell? ⟨B, 0, none⟩ = some (.int .i64 S.s) ∧ w.cell? ⟨B, 1, none⟩ = some (.int .i64 S.a) ∧ w.cell? ⟨B, 2, none⟩ = some (.int .i64 S.c) ∧ w.cell? ⟨B, 3, none⟩ = some (.int .i64 S.d) ∧ w.cell? ⟨B, 4, none⟩ = some (.int .i64 S.g) ∧ w.cell? ⟨B, 5, none⟩ = some (.int .i64 S.k) ∧ w.cell? ⟨B, 6, none⟩ = some (.slice S.aF S.nF S.cF) ∧ w.cell? ⟨B, 7, none⟩ = some (.slice S.aH S.nH S.cH) ∧ w.cell? ⟨B, 8, none⟩ = some (.slice S.aW S.nW S.cW) ∧ w.cell? ⟨B, 9, none⟩ = some (.slice S.aM S.nM S.cM) ∧ w.cell? ⟨B, 10, none⟩ = some (.slice S.aG S.nG S.cG) := by
  have h' : w.heap[B]? = _ := h
  simp [World.cell?, h']

/-- A hold: whose, by which handle, of which node. -/
structure Hl where
  c : Int
  h : Nat
  n : Int
/-- Holds in a slice that is read. -/
def RdHl (FL : Nat → Prop) (w : World) (ad : Option Addr) (L : List Hl) : Prop := ∀ i x, L[i]? = some x → ∃ b off, ad = some ⟨b, off, none⟩ ∧ (b < w.heap.size ∧ ¬ FL b) ∧ w.cell? ⟨b, off + i * 3, none⟩ = some (.int .i64 x.c) ∧ w.cell? ⟨b, off + i * 3 + 1, none⟩ = some (.int .u64 (x.h : Nat)) ∧ w.cell? ⟨b, off + i * 3 + 2, none⟩ = some (.int .i64 x.n)
theorem RdHl.below {FL : Nat → Prop} {w w' : World} {ad : Option Addr} {L : List Hl} (h : RdHl FL w ad L) (b : Below w.heap.size w w') : RdHl FL w' ad L := fun i x hx => by
  obtain ⟨g, off, h1, h2, h3, h4, h5⟩ := h i x hx
  exact ⟨g, off, h1, ⟨Nat.lt_of_lt_of_le h2.1 b.size, h2.2⟩, (b.cell (p := ⟨g, off + i * 3, none⟩) h2.1).trans h3, (b.cell (p := ⟨g, off + i * 3 + 1, none⟩) h2.1).trans h4, (b.cell (p := ⟨g, off + i * 3 + 2, none⟩) h2.1).trans h5⟩
/-- Words in a slice that is read. -/
def RdUs (FL : Nat → Prop) (w : World) (ad : Option Addr) (L : List Nat) : Prop := ∀ i x, L[i]? = some x → ∃ b off, ad = some ⟨b, off, none⟩ ∧ (b < w.heap.size ∧ ¬ FL b) ∧ w.cell? ⟨b, off + i, none⟩ = some (.int .u64 (x : Nat))
theorem RdUs.below {FL : Nat → Prop} {w w' : World} {ad : Option Addr} {L : List Nat} (h : RdUs FL w ad L) (b : Below w.heap.size w w') : RdUs FL w' ad L := fun i x hx => by
  obtain ⟨g, off, h1, h2, h3⟩ := h i x hx
  exact ⟨g, off, h1, ⟨Nat.lt_of_lt_of_le h2.1 b.size, h2.2⟩, (b.cell (p := ⟨g, off + i, none⟩) h2.1).trans h3⟩
def nodeF (k : Int) (h : Nat) : List Hl → Int
  | [] => -1
  | x :: L => if x.c = k ∧ x.h = h then x.n else nodeF k h L
def heldF (k : Int) : List Hl → Nat
  | [] => 0
  | x :: L => (if x.c = k then 1 else 0) + heldF k L
theorem heldF_le (k : Int) : ∀ L, heldF k L ≤ L.length
  | [] => Nat.le_refl _
  | x :: L => by have := heldF_le k L; unfold heldF; simp only [List.length_cons]; split <;> omega
theorem drop_at {α : Type} {L : List α} {i : Nat} (h : i < L.length) : ∃ x, L[i]? = some x ∧ L.drop i = x :: L.drop (i + 1) := by
  obtain ⟨x, hx⟩ : ∃ x, L[i]? = some x := ⟨_, List.getElem?_eq_getElem h⟩
  exact ⟨x, hx, by rw [List.drop_eq_getElem_cons h]; rw [List.getElem?_eq_getElem h] at hx; simp at hx; rw [hx]⟩

set_option maxRecDepth 100000 in
set_option maxHeartbeats 4000000 in
theorem node_any {FL : Nat → Prop} {w : World} (S : Sc) {H : List Hl} (hn : S.nH = H.length) (hH : RdHl FL w S.aH H) (hb : S.nH < 4611686018427387904) (k : Int) (h : Nat) :
    Calls Try.prog 29 #[.agg S.v, .int .i64 k, .int .u64 (h : Nat)] w fun r w' => r = .returned (.int .i64 (nodeF k h H)) ∧ Below w.heap.size w w' := by
  have is := IsS.new w S
  have bel := alloc_below w (.cells S.v 54)
  have HH := hid1 (hH.below bel)
  have hd := hid1 (show nodeF k h H = nodeF k h (H.drop 0) from rfl)
  have hN := hid1 hn
  clear hH hn
  unfold Sc.v at *
  go_enter Try.func29, Try.ntmps29
  go_upto_region 2 with fail
  generalize World.alloc _ _ = w1 at *
  generalize hbc : w.heap.size = bc at is ⊢
  replace hbc := hid1 hbc
  obtain ⟨x0, x1, x2, x3, x4, x5, x6, x7, x8, x9, x10⟩ := is.cells
  clear x0 x1 x2 x3 x4 x5 x6 x8 x9 x10
  go_loop [7] (fun i => ∃ (j : Nat), j ≤ S.nH ∧ i = .int .i64 j ∧ Hid (nodeF k h H = nodeF k h (H.drop j))) (fun i => S.nH - (intOf i).toNat)
  case atStart => exact ⟨0, Nat.zero_le _, rfl, hd⟩
  case round =>
    clear hd
    obtain ⟨j, hj, rfl, hd⟩ := hrel
    by_cases hl : j < S.nH
    · have hl1 : (j : Int) < (S.nH : Int) := by omega
      have hl0 : (0 : Int) ≤ (j : Int) := by omega
      obtain ⟨x, hx, hdr⟩ := drop_at (L := H) (i := j) (by have := hN.out; omega)
      obtain ⟨b, off, hA, hlt, y0, y1, y2⟩ := HH.out j x hx
      have hst : Hid (nodeF k h H = if x.c = k ∧ x.h = h then x.n else nodeF k h (H.drop (j + 1))) := hid1 (by rw [hd.out, hdr]; rfl)
      have e3 : IntKind.i64.wrap ((j : Int) + 1) = ((j + 1 : Nat) : Int) := by rw [IntKind.wrap_i64]; omega
      generalize hk2 : j + 1 = j2 at *
      replace hk2 := hid1 hk2
      rw [hA] at x7
      clear hx hdr hd hlt hA
      obtain ⟨xc, xh, xn⟩ := x
      simp only at y0 y1 y2 hst
      by_cases hc : xc = k
      · have f1 : (xc == k) = true := by simp [hc]
        have hst1 := hst.out
        replace hc := hid1 hc
        by_cases hh : xh = h
        · have f2 : ((xh : Int) == (h : Int)) = true := by simp [hh]
          rw [if_pos ⟨hc.out, hh⟩] at hst1
          replace hst1 := hid1 hst1
          clear hst hc hh
          go_wp2
          go_ret
          exact ⟨by rw [hst1.out]; rfl, bel⟩
        · have f2 : ((xh : Int) == (h : Int)) = false := by simp; omega
          rw [if_neg (fun q => hh q.2)] at hst1
          replace hst1 := hid1 hst1
          clear hst hc hh
          go_wp2
          go_roundw
          case rel => exact ⟨j2, by have := hk2.out; omega, rfl, hst1⟩
          case measure => (have := hk2.out; simp [intOf]; omega)
      · have f1 : (xc == k) = false := by simp [hc]
        have hst1 := hst.out
        rw [if_neg (fun q => hc q.1)] at hst1
        replace hst1 := hid1 hst1
        clear hst hc
        go_wp2
        go_roundw
        case rel => exact ⟨j2, by have := hk2.out; omega, rfl, hst1⟩
        case measure => (have := hk2.out; simp [intOf]; omega)
    · obtain rfl : j = S.nH := by omega
      have hl1 : ¬ (S.nH : Int) < (S.nH : Int) := by omega
      have hend : Hid (nodeF k h H = -1) := hid1 (by rw [hd.out, hN.out, List.drop_length]; rfl)
      go_wp2
      go_ret
      exact ⟨by rw [hend.out]; rfl, bel⟩
end Go.Proofs.Ytecppcakgfohbab
