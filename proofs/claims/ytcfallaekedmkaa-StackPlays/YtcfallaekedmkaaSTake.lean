/- A taker, whatever it does: one step of it. -/
import Derived.Test.YtcfallaekedmkaaSStep3
namespace Go.Proofs.Ytcfallaekedmkaa
open Go.RowKit
open Mm (IsMem MS zeroMS)
set_option linter.unusedVariables false

/-- The machine that is under way, if one is. -/
inductive Mc where
  | idle
  | pop (P : Nat) (p : PS)
  | push (P : Nat) (q : QS)

structure Tk where
  hv : Value
  has : List Nat
  wa : Option Addr
  wk : List Bool
  wc : Nat
  mc : Mc
  la : Int

def Mc.popA : Mc → Option Addr
  | .pop P _ => some ⟨P, 0, none⟩
  | _ => none
def Mc.pushA : Mc → Option Addr
  | .push P _ => some ⟨P, 0, none⟩
  | _ => none
def Mc.blk : Mc → List Nat
  | .idle => []
  | .pop P _ => [P]
  | .push P _ => [P]
def Mc.lay : Mc → List Nat
  | .push _ q => [q.sl]
  | _ => []
/-- The slots that a taker has, or is about to lay. -/
def Tk.hold (t : Tk) : List Nat := t.has ++ t.mc.lay
/-- The blocks that are its own. -/
def Tk.own (t : Tk) : List Nat := t.hv.ownBlock.toList ++ t.mc.blk

def McW (w : World) (K : Cf) : Mc → Prop
  | .idle => True
  | .pop P p => IsPopS w P K p
  | .push P q => IsPushS w P K q
def McInv (K : Cf) (X : List Nat) (tag : Nat) : Mc → Int → Prop
  | .idle, _ => True
  | .pop _ p, _ => PWf K p ∧ PInv K X tag p ∧ p.sl = -1 ∧ p.em = false
  | .push _ q, la => QWf K q ∧ QInv K X tag q ∧ la = (q.sl : Int)

/-- The work that is left, in blocks that came in. -/
def Wk (w : World) (base : Nat) (ad : Option Addr) (wk : List Bool) : Prop :=
  ∀ i (hi : i < wk.length), ∃ b off, ad = some ⟨b, off, none⟩ ∧ b < base ∧ w.cell? ⟨b, off + i, none⟩ = some (.bool wk[i])

theorem Wk.chg {w w' : World} {base : Nat} {ad : Option Addr} {wk : List Bool} {l : List Nat} (h : Wk w base ad wk) (c : Chg l w w') (hl : ∀ i ∈ l, base ≤ i) (hb : base ≤ w.heap.size) : Wk w' base ad wk := fun i hi => by
  obtain ⟨b, off, e, hlt, hc⟩ := h i hi
  refine ⟨b, off, e, hlt, ?_⟩
  have hbk := c.block b (by omega) (fun hm => by have := hl b hm; omega)
  rw [World.cell?_of_block (w := w) (w' := w') (a := ⟨b, off + i, none⟩) hbk]
  exact hc
theorem Wk.head {w : World} {base : Nat} {ad : Option Addr} {z : Bool} {wk : List Bool} (h : Wk w base ad (z :: wk)) (hb : base ≤ w.heap.size) : ∃ b off, ad = some ⟨b, off, none⟩ ∧ b < base ∧ WB w b off z := by
  obtain ⟨b, off, e, hlt, hc⟩ := h 0 (by simp)
  exact ⟨b, off, e, hlt, by omega, hc⟩
theorem Wk.tail {w : World} {base b off wc : Nat} {z : Bool} {wk : List Bool} (h : Wk w base (some ⟨b, off, none⟩) (z :: wk)) (hc : wk.length + 1 ≤ wc) : Wk w base (if wc = 1 then some ⟨b, off, none⟩ else some ⟨b, off + 1, none⟩) wk := fun i hi => by
  obtain ⟨b', off', e, hlt, hce⟩ := h (i + 1) (by simp; omega)
  simp only [Option.some.injEq, Addr.mk.injEq] at e
  obtain ⟨rfl, rfl, -⟩ := e
  rw [if_neg (by omega)]
  exact ⟨b, off + 1, rfl, hlt, by rw [show off + 1 + i = off + (i + 1) by omega, hce]; simp⟩

/-- A taker in its place of the row. -/
structure TkOk (w : World) (base o : Nat) (K : Cf) (cur : Array Value) (t : Tk) : Prop where
  c0 : cur[o]? = some t.hv
  c1 : cur[o + 1]? = some (.slice t.wa t.wk.length t.wc)
  c2 : cur[o + 2]? = some (.pointer t.mc.popA)
  c3 : cur[o + 3]? = some (.pointer t.mc.pushA)
  c4 : cur[o + 4]? = some (.int .i64 t.la)
  has : IsI w t.hv t.has
  wk : Wk w base t.wa t.wk
  wc : t.wk.length ≤ t.wc
  mc : McW w K t.mc

/-- What is asked of a taker's blocks. -/
structure Sep (base M G L : Nat) (t : Tk) : Prop where
  far : ∀ b ∈ t.own, b ≠ M ∧ b ≠ G ∧ b ≠ L ∧ base ≤ b
  nd : t.own.Nodup

/-- What one step leaves. -/
structure Left (w w' : World) (base M G L o : Nat) (K : Cf) (m : MS) (tag : Nat) (F : List Nat) (cur : Array Value) (t : Tk) (m' : MS) (tag' : Nat) (F' : List Nat) (cur' : Array Value) (t' : Tk) : Prop where
  mem : IsMem w' M G m'
  top : Top K m'.X tag' F'
  t0 : 0 ≤ m'.t ∧ m'.t ≤ m.t + 1
  tg : tag' ≤ tag + 1
  row : IsRow w' L cur'
  sz : cur'.size = cur.size
  far : ∀ j, j < o ∨ o + 5 ≤ j → cur'[j]? = cur[j]?
  tk : TkOk w' base o K cur' t'
  inv : McInv K m'.X tag' t'.mc t'.la
  eff : Eff K t.hold m.X tag F m'.X tag' F'
  perm : (F' ++ t'.hold).Perm (F ++ t.hold)
  nd : t'.own.Nodup
  own : ∀ b ∈ t'.own, b ∈ t.own ∨ w.heap.size ≤ b
  ch : Chg ([M, G, L] ++ t.own) w w'

theorem own_hv {t : Tk} {r : Nat} (h : t.hv.ownBlock = some r) : r ∈ t.own := by simp [Tk.own, h]
end Go.Proofs.Ytcfallaekedmkaa
