/- Contracts of package stack's Pop, wherever it lies in a block. -/
import Derived.Test.YteechgmjaagbmabDoorDA
namespace Go.Proofs.YteechgmjaagbmabDoor
open Go.RowKit
open Mm (IsMem MS touched Only)
open Hh (WT)
open Tg (movedW)

/-- What a Pop holds. -/
structure PS where
  sl : Int
  em : Bool
  pc : Nat
  tp : Nat
  nx : Int
structure PoAt (c : Array Value) (o : Nat) (K : Cf) (p : PS) : Prop where
  sl : c[o]? = some (.int .i64 p.sl)
  em : c[o + 1]? = some (.bool p.em)
  k0 : c[o + 2]? = some (.int .i64 (K.S : Nat))
  k1 : c[o + 3]? = some (.int .i64 K.a)
  k2 : c[o + 4]? = some (.int .i64 (K.C : Nat))
  k3 : c[o + 5]? = some (.int .i64 (K.D : Nat))
  k4 : c[o + 6]? = some (.int .i64 K.g)
  k5 : c[o + 7]? = some (.int .i64 K.k)
  pc : c[o + 8]? = some (.int .i64 (p.pc : Nat))
  tp : c[o + 9]? = some (.int .u64 (p.tp : Nat))
  nx : c[o + 10]? = some (.int .i64 p.nx)
theorem PoAt.size {c : Array Value} {o : Nat} {K : Cf} {p : PS} (h : PoAt c o K p) : o + 10 < c.size := lt_get h.nx
theorem PoAt.same {c c' : Array Value} {o a b : Nat} {K : Cf} {p : PS} (h : PoAt c o K p) (s : Same c c' a b) (hab : b < o ∨ o + 10 < a) : PoAt c' o K p := by
  have e : ∀ i, i ≤ 10 → c'[o + i]? = c[o + i]? := fun i hi => s.out _ (by omega)
  exact ⟨(s.out o (by omega)).trans h.sl, (e 1 (by omega)).trans h.em, (e 2 (by omega)).trans h.k0, (e 3 (by omega)).trans h.k1, (e 4 (by omega)).trans h.k2, (e 5 (by omega)).trans h.k3, (e 6 (by omega)).trans h.k4, (e 7 (by omega)).trans h.k5, (e 8 (by omega)).trans h.pc, (e 9 (by omega)).trans h.tp, (e 10 (by omega)).trans h.nx⟩
theorem PoAt.put_sl {c : Array Value} {o : Nat} {K : Cf} {p : PS} (h : PoAt c o K p) (v : Int) : PoAt (c.setIfInBounds o (.int .i64 v)) o K { p with sl := v } := by
  have := h.size
  exact ⟨get_set (by omega), (get_set_ne (by omega)).trans h.em, (get_set_ne (by omega)).trans h.k0, (get_set_ne (by omega)).trans h.k1, (get_set_ne (by omega)).trans h.k2, (get_set_ne (by omega)).trans h.k3, (get_set_ne (by omega)).trans h.k4, (get_set_ne (by omega)).trans h.k5, (get_set_ne (by omega)).trans h.pc, (get_set_ne (by omega)).trans h.tp, (get_set_ne (by omega)).trans h.nx⟩
theorem PoAt.put_em {c : Array Value} {o : Nat} {K : Cf} {p : PS} (h : PoAt c o K p) (v : Bool) : PoAt (c.setIfInBounds (o + 1) (.bool v)) o K { p with em := v } := by
  have := h.size
  exact ⟨(get_set_ne (by omega)).trans h.sl, get_set (by omega), (get_set_ne (by omega)).trans h.k0, (get_set_ne (by omega)).trans h.k1, (get_set_ne (by omega)).trans h.k2, (get_set_ne (by omega)).trans h.k3, (get_set_ne (by omega)).trans h.k4, (get_set_ne (by omega)).trans h.k5, (get_set_ne (by omega)).trans h.pc, (get_set_ne (by omega)).trans h.tp, (get_set_ne (by omega)).trans h.nx⟩
theorem PoAt.put_pc {c : Array Value} {o : Nat} {K : Cf} {p : PS} (h : PoAt c o K p) (v : Nat) : PoAt (c.setIfInBounds (o + 8) (.int .i64 (v : Nat))) o K { p with pc := v } := by
  have := h.size
  exact ⟨(get_set_ne (by omega)).trans h.sl, (get_set_ne (by omega)).trans h.em, (get_set_ne (by omega)).trans h.k0, (get_set_ne (by omega)).trans h.k1, (get_set_ne (by omega)).trans h.k2, (get_set_ne (by omega)).trans h.k3, (get_set_ne (by omega)).trans h.k4, (get_set_ne (by omega)).trans h.k5, get_set (by omega), (get_set_ne (by omega)).trans h.tp, (get_set_ne (by omega)).trans h.nx⟩
theorem PoAt.put_tp {c : Array Value} {o : Nat} {K : Cf} {p : PS} (h : PoAt c o K p) (v : Nat) : PoAt (c.setIfInBounds (o + 9) (.int .u64 (v : Nat))) o K { p with tp := v } := by
  have := h.size
  exact ⟨(get_set_ne (by omega)).trans h.sl, (get_set_ne (by omega)).trans h.em, (get_set_ne (by omega)).trans h.k0, (get_set_ne (by omega)).trans h.k1, (get_set_ne (by omega)).trans h.k2, (get_set_ne (by omega)).trans h.k3, (get_set_ne (by omega)).trans h.k4, (get_set_ne (by omega)).trans h.k5, (get_set_ne (by omega)).trans h.pc, get_set (by omega), (get_set_ne (by omega)).trans h.nx⟩
theorem PoAt.put_nx {c : Array Value} {o : Nat} {K : Cf} {p : PS} (h : PoAt c o K p) (v : Int) : PoAt (c.setIfInBounds (o + 10) (.int .i64 v)) o K { p with nx := v } := by
  have := h.size
  exact ⟨(get_set_ne (by omega)).trans h.sl, (get_set_ne (by omega)).trans h.em, (get_set_ne (by omega)).trans h.k0, (get_set_ne (by omega)).trans h.k1, (get_set_ne (by omega)).trans h.k2, (get_set_ne (by omega)).trans h.k3, (get_set_ne (by omega)).trans h.k4, (get_set_ne (by omega)).trans h.k5, (get_set_ne (by omega)).trans h.pc, (get_set_ne (by omega)).trans h.tp, get_set (by omega)⟩

/-- A Pop's step on the words. -/
def popX (K : Cf) (X : List Nat) (p : PS) : List Nat × PS :=
  if p.pc = 0 then
    (X, ⟨p.sl, if fst K.S (X.getD 3 0) = -1 then true else p.em, if fst K.S (X.getD 3 0) = -1 then 3 else 1, X.getD 3 0, p.nx⟩)
  else if p.pc = 1 then
    (X, ⟨p.sl, p.em, 2, p.tp, nmd K.S (X.getD (K.lk (fst K.S p.tp).toNat) 0)⟩)
  else if p.pc = 2 then
    if X.getD 3 0 = p.tp then (X.set 3 (movedW p.tp p.nx), ⟨fst K.S p.tp, p.em, 3, p.tp, p.nx⟩)
    else (X, ⟨p.sl, p.em, 0, p.tp, p.nx⟩)
  else (X, p)
/-- What keeps a Pop's next step from falling. -/
structure PWf (K : Cf) (p : PS) : Prop where
  pc : p.pc ≤ 3
  tp : p.tp < 18446744073709551616
  one : p.pc = 1 → fst K.S p.tp ≠ -1
theorem movedW_lt (W : Nat) (s : Int) : movedW W s < 18446744073709551616 := by
  have := Tg.sl_le s
  unfold movedW
  omega
theorem fst_cases (S t : Nat) : fst S t = -1 ∨ ∃ s : Nat, s < S ∧ fst S t = (s : Int) ∧ t % 65536 = s + 1 := nmd_cases S _

/-- The cells that a Pop's own steps read. -/
theorem PoAt.rd {w wr : World} {M G N P : Nat} {X : List Nat} {T : Int} {c : Array Value} {t : TypeId} {o : Nat} {K : Cf} {p : PS} (h : PoAt c o K p) (is : InA w wr M G N X T P c t) :
    wr.cell? ⟨P, o + 2, none⟩ = some (.int .i64 (K.S : Nat)) ∧ wr.cell? ⟨P, o + 3, none⟩ = some (.int .i64 K.a) ∧ wr.cell? ⟨P, o + 4, none⟩ = some (.int .i64 (K.C : Nat)) ∧ wr.cell? ⟨P, o + 5, none⟩ = some (.int .i64 (K.D : Nat)) ∧ wr.cell? ⟨P, o + 6, none⟩ = some (.int .i64 K.g) ∧ wr.cell? ⟨P, o + 7, none⟩ = some (.int .i64 K.k) ∧ wr.cell? ⟨P, o + 9, none⟩ = some (.int .u64 (p.tp : Nat)) :=
  ⟨is.cell h.k0, is.cell h.k1, is.cell h.k2, is.cell h.k3, is.cell h.k4, is.cell h.k5, is.cell h.tp⟩

/-- The cells that a Pop's swap reads. -/
theorem PoAt.rd2 {w wr : World} {M G N P : Nat} {X : List Nat} {T : Int} {c : Array Value} {t : TypeId} {o : Nat} {K : Cf} {p : PS} (h : PoAt c o K p) (is : InA w wr M G N X T P c t) :
    wr.cell? ⟨P, o + 9, none⟩ = some (.int .u64 (p.tp : Nat)) ∧ wr.cell? ⟨P, o + 10, none⟩ = some (.int .i64 p.nx) := ⟨is.cell h.tp, is.cell h.nx⟩

end Go.Proofs.YteechgmjaagbmabDoor
