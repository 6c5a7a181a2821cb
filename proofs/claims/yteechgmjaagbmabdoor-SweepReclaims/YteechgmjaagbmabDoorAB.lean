/- Contracts of package arena's Make: its own helpers. -/
import Derived.Test.YteechgmjaagbmabDoorAPop
import Derived.Test.YteechgmjaagbmabDoorHC
import Derived.Test.YteechgmjaagbmabDoorAFree
import Derived.Laws.CopyOwn
import Derived.Test.YteechgmjaagbmabDoorPFit
namespace Go.Proofs.YteechgmjaagbmabDoor
open Go.RowKit
open Mm (IsMem MS touched Only IsWords)
open Hh (WT wordOf bornN okW Hr)

/-- What a Make holds: the slot that it made, whether there was none, what it is to make, the body and the block in which that lies, what takes a slot, how far it is, the generation, the next word. -/
structure Mk where
  sl : Int
  full : Bool
  kind : Nat
  ar : Nat
  e : Nat
  bb : Nat
  body : List Nat
  p : PS
  pc : Nat
  gen : Nat
  nx : Nat
structure MkAt (c : Array Value) (K : Cf) (m : Mk) : Prop where
  sl : c[0]? = some (.int .i64 m.sl)
  full : c[1]? = some (.bool m.full)
  k0 : c[2]? = some (.int .i64 (K.S : Nat))
  k1 : c[3]? = some (.int .i64 K.a)
  k2 : c[4]? = some (.int .i64 (K.C : Nat))
  k3 : c[5]? = some (.int .i64 (K.D : Nat))
  k4 : c[6]? = some (.int .i64 K.g)
  k5 : c[7]? = some (.int .i64 K.k)
  kind : c[8]? = some (.int .i64 (m.kind : Nat))
  ar : c[9]? = some (.int .i64 (m.ar : Nat))
  e : c[10]? = some (.int .u64 (m.e : Nat))
  body : c[11]? = some (.slice (some ⟨m.bb, 0, none⟩) m.body.length m.body.length)
  p : PoAt c 12 K m.p
  pc : c[23]? = some (.int .i64 (m.pc : Nat))
  gen : c[24]? = some (.int .i64 (m.gen : Nat))
  nx : c[25]? = some (.int .i64 (m.nx : Nat))
theorem MkAt.size {c : Array Value} {K : Cf} {m : Mk} (h : MkAt c K m) : 25 < c.size := lt_get h.nx
theorem MkAt.pop {c c' : Array Value} {K : Cf} {m : Mk} {p : PS} (h : MkAt c K m) (s : Same c c' 12 22) (hp : PoAt c' 12 K p) : MkAt c' K { m with p := p } :=
  ⟨(s.out _ (by omega)).trans h.sl, (s.out _ (by omega)).trans h.full, (s.out _ (by omega)).trans h.k0, (s.out _ (by omega)).trans h.k1, (s.out _ (by omega)).trans h.k2, (s.out _ (by omega)).trans h.k3, (s.out _ (by omega)).trans h.k4, (s.out _ (by omega)).trans h.k5, (s.out _ (by omega)).trans h.kind, (s.out _ (by omega)).trans h.ar, (s.out _ (by omega)).trans h.e, (s.out _ (by omega)).trans h.body, hp, (s.out _ (by omega)).trans h.pc, (s.out _ (by omega)).trans h.gen, (s.out _ (by omega)).trans h.nx⟩
theorem MkAt.put_pc {c : Array Value} {K : Cf} {m : Mk} (h : MkAt c K m) (v : Nat) : MkAt (c.setIfInBounds 23 (.int .i64 (v : Nat))) K { m with pc := v } := by
  have := h.size
  exact ⟨(get_set_ne (by omega)).trans h.sl, (get_set_ne (by omega)).trans h.full, (get_set_ne (by omega)).trans h.k0, (get_set_ne (by omega)).trans h.k1, (get_set_ne (by omega)).trans h.k2, (get_set_ne (by omega)).trans h.k3, (get_set_ne (by omega)).trans h.k4, (get_set_ne (by omega)).trans h.k5, (get_set_ne (by omega)).trans h.kind, (get_set_ne (by omega)).trans h.ar, (get_set_ne (by omega)).trans h.e, (get_set_ne (by omega)).trans h.body, h.p.same (Same.set c (a := 23) (b := 23) _ (by omega)) (by omega), get_set (by omega), (get_set_ne (by omega)).trans h.gen, (get_set_ne (by omega)).trans h.nx⟩
theorem MkAt.put_gen {c : Array Value} {K : Cf} {m : Mk} (h : MkAt c K m) (v : Nat) : MkAt (c.setIfInBounds 24 (.int .i64 (v : Nat))) K { m with gen := v } := by
  have := h.size
  exact ⟨(get_set_ne (by omega)).trans h.sl, (get_set_ne (by omega)).trans h.full, (get_set_ne (by omega)).trans h.k0, (get_set_ne (by omega)).trans h.k1, (get_set_ne (by omega)).trans h.k2, (get_set_ne (by omega)).trans h.k3, (get_set_ne (by omega)).trans h.k4, (get_set_ne (by omega)).trans h.k5, (get_set_ne (by omega)).trans h.kind, (get_set_ne (by omega)).trans h.ar, (get_set_ne (by omega)).trans h.e, (get_set_ne (by omega)).trans h.body, h.p.same (Same.set c (a := 24) (b := 24) _ (by omega)) (by omega), (get_set_ne (by omega)).trans h.pc, get_set (by omega), (get_set_ne (by omega)).trans h.nx⟩
theorem MkAt.put_nx {c : Array Value} {K : Cf} {m : Mk} (h : MkAt c K m) (v : Nat) : MkAt (c.setIfInBounds 25 (.int .i64 (v : Nat))) K { m with nx := v } := by
  have := h.size
  exact ⟨(get_set_ne (by omega)).trans h.sl, (get_set_ne (by omega)).trans h.full, (get_set_ne (by omega)).trans h.k0, (get_set_ne (by omega)).trans h.k1, (get_set_ne (by omega)).trans h.k2, (get_set_ne (by omega)).trans h.k3, (get_set_ne (by omega)).trans h.k4, (get_set_ne (by omega)).trans h.k5, (get_set_ne (by omega)).trans h.kind, (get_set_ne (by omega)).trans h.ar, (get_set_ne (by omega)).trans h.e, (get_set_ne (by omega)).trans h.body, h.p.same (Same.set c (a := 25) (b := 25) _ (by omega)) (by omega), (get_set_ne (by omega)).trans h.pc, (get_set_ne (by omega)).trans h.gen, get_set (by omega)⟩
theorem MkAt.put_full {c : Array Value} {K : Cf} {m : Mk} (h : MkAt c K m) (v : Bool) : MkAt (c.setIfInBounds 1 (.bool v)) K { m with full := v } := by
  have := h.size
  exact ⟨(get_set_ne (by omega)).trans h.sl, get_set (by omega), (get_set_ne (by omega)).trans h.k0, (get_set_ne (by omega)).trans h.k1, (get_set_ne (by omega)).trans h.k2, (get_set_ne (by omega)).trans h.k3, (get_set_ne (by omega)).trans h.k4, (get_set_ne (by omega)).trans h.k5, (get_set_ne (by omega)).trans h.kind, (get_set_ne (by omega)).trans h.ar, (get_set_ne (by omega)).trans h.e, (get_set_ne (by omega)).trans h.body, h.p.same (Same.set c (a := 1) (b := 1) _ (by omega)) (by omega), (get_set_ne (by omega)).trans h.pc, (get_set_ne (by omega)).trans h.gen, (get_set_ne (by omega)).trans h.nx⟩
theorem MkAt.put_sl {c : Array Value} {K : Cf} {m : Mk} (h : MkAt c K m) (v : Int) : MkAt (c.setIfInBounds 0 (.int .i64 v)) K { m with sl := v } := by
  have := h.size
  exact ⟨get_set (by omega), (get_set_ne (by omega)).trans h.full, (get_set_ne (by omega)).trans h.k0, (get_set_ne (by omega)).trans h.k1, (get_set_ne (by omega)).trans h.k2, (get_set_ne (by omega)).trans h.k3, (get_set_ne (by omega)).trans h.k4, (get_set_ne (by omega)).trans h.k5, (get_set_ne (by omega)).trans h.kind, (get_set_ne (by omega)).trans h.ar, (get_set_ne (by omega)).trans h.e, (get_set_ne (by omega)).trans h.body, h.p.same (Same.set c (a := 0) (b := 0) _ (by omega)) (by omega), (get_set_ne (by omega)).trans h.pc, (get_set_ne (by omega)).trans h.gen, (get_set_ne (by omega)).trans h.nx⟩

def Mk.slot (m : Mk) : Nat := m.p.sl.toNat
/-- The generation of a header's word, 0 where it is no right one. -/
def genW (W : Nat) : Nat := if okW W = true then W / 65536 % 4294967296 else 0
theorem genW_lt (W : Nat) : genW W < 4294967296 := by unfold genW; split <;> omega
/-- The word of what is made. -/
def madeW (k a n e : Nat) : Nat := wordOf k (bornN e) (false : Bool).toNat a n 0
/-- A Make's step on the words. -/
def mkX (K : Cf) (X : List Nat) (m : Mk) : List Nat × Mk :=
  if m.pc = 0 then
    ((popX K X m.p).1, if (popX K X m.p).2.pc = 3 then
        (if (popX K X m.p).2.em = true then { m with p := (popX K X m.p).2, full := true, pc := 4 } else { m with p := (popX K X m.p).2, pc := 1 })
      else { m with p := (popX K X m.p).2 })
  else if m.pc = 1 then (X, { m with gen := genW (X.getD (K.hd m.slot) 0), pc := 2 })
  else if m.pc = 2 then (X.set (K.bd m.slot m.nx) (m.body.getD m.nx 0), { m with nx := m.nx + 1, pc := if m.nx + 1 = m.body.length then 3 else 2 })
  else if m.pc = 3 then (X.set (K.hd m.slot) (madeW m.kind m.ar m.gen m.e), { m with sl := m.p.sl, pc := 4 })
  else (X, m)
structure Mk.Ok (m : Mk) (K : Cf) : Prop where
  kind : m.kind = 1 ∨ m.kind = 2
  ar : m.ar < 16
  e : m.e < 18446744073709551616
  len : m.body.length = K.B
  fits : ∀ i, m.body.getD i 0 < 18446744073709551616
  wf : PWf K m.p
  pc : m.pc ≤ 4
  p0 : m.pc = 0 → m.p.pc ≤ 2
  some : 1 ≤ m.pc → m.pc ≤ 3 → ∃ s : Nat, s < K.S ∧ m.p.sl = (s : Int)
  gen : m.gen < 4294967296
  nx : m.pc ≤ 2 → m.nx < K.B

/-- The cells that the store of a body's word reads. -/
theorem MkAt.rdW {w wr : World} {M G N P : Nat} {X : List Nat} {T : Int} {c : Array Value} {t : TypeId} {K : Cf} {m : Mk} (h : MkAt c K m) (is : InA w wr M G N X T P c t) (hb : IsWords wr m.bb m.body) (hi : m.nx < m.body.length) :
    wr.cell? ⟨P, 2, none⟩ = some (.int .i64 (K.S : Nat)) ∧ wr.cell? ⟨P, 3, none⟩ = some (.int .i64 K.a) ∧ wr.cell? ⟨P, 4, none⟩ = some (.int .i64 (K.C : Nat)) ∧ wr.cell? ⟨P, 5, none⟩ = some (.int .i64 (K.D : Nat)) ∧ wr.cell? ⟨P, 6, none⟩ = some (.int .i64 K.g) ∧ wr.cell? ⟨P, 7, none⟩ = some (.int .i64 K.k) ∧ wr.cell? ⟨P, 12, none⟩ = some (.int .i64 m.p.sl) ∧ wr.cell? ⟨P, 25, none⟩ = some (.int .i64 (m.nx : Nat)) ∧ wr.cell? ⟨P, 11, none⟩ = some (.slice (some ⟨m.bb, 0, none⟩) m.body.length m.body.length) ∧ wr.cell? ⟨m.bb, m.nx, none⟩ = some (.int .u64 (m.body.getD m.nx 0 : Nat)) :=
  ⟨is.cell h.k0, is.cell h.k1, is.cell h.k2, is.cell h.k3, is.cell h.k4, is.cell h.k5, is.cell h.p.sl, is.cell h.nx, is.cell h.body, Mm.words_at hb _ hi⟩
theorem words_chg {L : List Nat} {w w' : World} {R : Nat} {X : List Nat} (h : IsWords w R X) (c : Chg L w w') (hn : R ∉ L) : IsWords w' R X := c.at (show w.heap[R]? = _ from h) hn

/-- The cells that the store of the header reads. -/
theorem MkAt.rdH {w wr : World} {M G N P : Nat} {X : List Nat} {T : Int} {c : Array Value} {t : TypeId} {K : Cf} {m : Mk} (h : MkAt c K m) (is : InA w wr M G N X T P c t) :
    wr.cell? ⟨P, 8, none⟩ = some (.int .i64 (m.kind : Nat)) ∧ wr.cell? ⟨P, 9, none⟩ = some (.int .i64 (m.ar : Nat)) ∧ wr.cell? ⟨P, 24, none⟩ = some (.int .i64 (m.gen : Nat)) ∧ wr.cell? ⟨P, 10, none⟩ = some (.int .u64 (m.e : Nat)) :=
  ⟨is.cell h.kind, is.cell h.ar, is.cell h.gen, is.cell h.e⟩
theorem MkAt.rdC {w wr : World} {M G N P : Nat} {X : List Nat} {T : Int} {c : Array Value} {t : TypeId} {K : Cf} {m : Mk} (h : MkAt c K m) (is : InA w wr M G N X T P c t) :
    wr.cell? ⟨P, 2, none⟩ = some (.int .i64 (K.S : Nat)) ∧ wr.cell? ⟨P, 3, none⟩ = some (.int .i64 K.a) ∧ wr.cell? ⟨P, 4, none⟩ = some (.int .i64 (K.C : Nat)) ∧ wr.cell? ⟨P, 5, none⟩ = some (.int .i64 (K.D : Nat)) ∧ wr.cell? ⟨P, 6, none⟩ = some (.int .i64 K.g) ∧ wr.cell? ⟨P, 7, none⟩ = some (.int .i64 K.k) ∧ wr.cell? ⟨P, 12, none⟩ = some (.int .i64 m.p.sl) :=
  ⟨is.cell h.k0, is.cell h.k1, is.cell h.k2, is.cell h.k3, is.cell h.k4, is.cell h.k5, is.cell h.p.sl⟩

end Go.Proofs.YteechgmjaagbmabDoor
/- Contracts of package arena's Make: Step. -/
namespace Go.Proofs.YteechgmjaagbmabDoor
open Go.RowKit
open Mm (IsMem MS touched Only IsWords)
open Hh (WT wordOf bornN okW Hr)

/-- What head.Unpack tells of a word's generation. -/
theorem unpack_gen (W : Nat) (hW : W < 18446744073709551616) : ∃ (k m : Int) (g : Bool) (a s : Int) (z : Bool), ∀ w, WT w → Calls Tryd.prog 51 #[.int .u64 (W : Nat)] w fun e w' => e = .returned (.tuple #[.agg #[.int .i64 k, .int .i64 m, .bool g, .int .i64 a, .int .i64 (genW W : Nat), .int .i64 s], .bool z]) ∧ Below w.heap.size w w' := by
  by_cases h : okW W = true
  · obtain ⟨K, M, g, A, N, S, hr, rfl⟩ := Hh.okW_parts hW h
    have e : genW (wordOf K M g.toNat A N S) = N := by
      unfold genW
      rw [if_pos h]
      exact (Hh.word_parts g hr).2.2.2.2.2.1
    rw [e]
    exact ⟨_, _, _, _, _, _, fun w hw => Hh.unpack_word g hr w hw⟩
  · have h' : okW W = false := by simpa using h
    have e : genW W = 0 := by unfold genW; rw [if_neg h]
    rw [e]
    refine ⟨0, 0, false, 0, 0, false, fun w hw => ?_⟩
    have c := Hh.hunpack_any W hW w hw
    rw [Hh.unpV_bad h'] at c
    exact c

/-- A new block of a header's six cells beside the machine's. -/
structure HdZ (w wr : World) (M G P R : Nat) : Prop where
  hd : Hh.IsHd wr R 0 0 false 0 0 0
  ne : R ≠ M ∧ R ≠ G ∧ R ≠ P
  new : w.heap.size ≤ R
theorem HdZ.below {w wr w' : World} {M G P R : Nat} (h : HdZ w wr M G P R) (b : Below wr.heap.size wr w') : HdZ w w' M G P R := ⟨h.hd.below b, h.ne, h.new⟩
theorem HdZ.only {w wr w' : World} {M G P R : Nat} (h : HdZ w wr M G P R) (o : Only M G wr w') : HdZ w w' M G P R := ⟨(o.block R (lt_of_block h.hd) h.ne.1 h.ne.2.1).trans h.hd, h.ne, h.new⟩
theorem HdZ.ofNew {w wr : World} {M G N P : Nat} {X : List Nat} {T : Int} {c : Array Value} {t : TypeId} (is : InA w wr M G N X T P c t) : HdZ w (wr.alloc (.cells #[.int .i64 0, .int .i64 0, .bool false, .int .i64 0, .int .i64 0, .int .i64 0] 43)) M G P wr.heap.size := by
  have h1 := is.mem.lt
  have h2 := lt_of_block is.blk
  exact ⟨Hh.hd_new wr 0 0 false 0 0 0, by omega, is.ch.size⟩
theorem HdZ.ofNewD {w wr : World} {M G N P : Nat} {X : List Nat} {T : Int} {c : Array Value} {t : TypeId} (is : InA w wr M G N X T P c t) : HdZ w (wr.alloc (.cells #[.int .i64 0, .int .i64 0, .bool false, .int .i64 0, .int .i64 0, .int .i64 0] 43)).drew M G P wr.heap.size := by
  have h := HdZ.ofNew is
  exact ⟨h.hd, h.ne, h.new⟩
theorem HdZ.cells {w wr : World} {M G P R : Nat} (h : HdZ w wr M G P R) : (wr.cell? ⟨R, 0, none⟩ = some (.int .i64 0) ∧ wr.cell? ⟨R, 1, none⟩ = some (.int .i64 0) ∧ wr.cell? ⟨R, 2, none⟩ = some (.bool false) ∧ wr.cell? ⟨R, 3, none⟩ = some (.int .i64 0) ∧ wr.cell? ⟨R, 4, none⟩ = some (.int .i64 0) ∧ wr.cell? ⟨R, 5, none⟩ = some (.int .i64 0)) ∧ ∀ i, wr.frozen? ⟨R, i, none⟩ = false := ⟨h.hd.cells, fun i => h.hd.free i⟩
theorem InA.other {w wr : World} {M G N P : Nat} {X : List Nat} {T : Int} {c : Array Value} {t : TypeId} (h : InA w wr M G N X T P c t) {R : Nat} (hR : R ≠ M ∧ R ≠ G ∧ R ≠ P) (hn : w.heap.size ≤ R) (hw : 0 < w.heap.size) (i : Nat) (v : Value) : InA w (wr.setCell ⟨R, i, none⟩ v) M G N X T P c t := by
  have ch : Chg [R] wr (wr.setCell ⟨R, i, none⟩ v) := (Chg.refl [R] wr).setCell (by simp) v
  exact ⟨h.mem.chg ch (by simp; omega) (by simp; omega), WT.chg h.wt ch (by simp; omega), h.len, h.tb, ch.at h.blk (by simp; omega), h.ch.setCell (.inr hn) v, h.hP, h.pos⟩
theorem InA.six {w wr : World} {M G N P : Nat} {X : List Nat} {T : Int} {c : Array Value} {t : TypeId} (h : InA w wr M G N X T P c t) {R : Nat} (hz : HdZ w wr M G P R) (hw : 0 < w.heap.size) (v0 v1 v2 v3 v4 v5 : Value) : InA w ((((((wr.setCell ⟨R, 0, none⟩ v0).setCell ⟨R, 1, none⟩ v1).setCell ⟨R, 2, none⟩ v2).setCell ⟨R, 3, none⟩ v3).setCell ⟨R, 4, none⟩ v4).setCell ⟨R, 5, none⟩ v5) M G N X T P c t :=
  (((((h.other hz.ne hz.new hw 0 v0).other hz.ne hz.new hw 1 v1).other hz.ne hz.new hw 2 v2).other hz.ne hz.new hw 3 v3).other hz.ne hz.new hw 4 v4).other hz.ne hz.new hw 5 v5
theorem HdZ.got {w wr : World} {M G P R : Nat} (hz : HdZ w wr M G P R) (k m : Int) (g : Bool) (a n s : Int) : ((((((wr.setCell ⟨R, 0, none⟩ (.int .i64 k)).setCell ⟨R, 1, none⟩ (.int .i64 m)).setCell ⟨R, 2, none⟩ (.bool g)).setCell ⟨R, 3, none⟩ (.int .i64 a)).setCell ⟨R, 4, none⟩ (.int .i64 n)).setCell ⟨R, 5, none⟩ (.int .i64 s)).cell? ⟨R, 4, none⟩ = some (.int .i64 n) := (Hh.hd_stored hz.hd k m g a n s).cells.2.2.2.2.1

end Go.Proofs.YteechgmjaagbmabDoor
/- Contracts of package arena's own small functions and of what makes its machines. -/
namespace Go.Proofs.YteechgmjaagbmabDoor
open Go.RowKit
open Mm (IsMem MS touched Only IsWords)
open Hh (WT wordOf bornN okW Hr)

/-- Whether a slot may be made something of this kind and arity. -/
def mayB (a kind ar : Int) : Bool := (decide (kind = 1) && decide (0 ≤ ar) && decide (ar ≤ a)) || (decide (kind = 2) && decide (ar = 0))
/-- Words that a slice has, if it has any. -/
def SrW (w : World) (ad : Option Addr) (Y : List Nat) : Prop := ∀ i, i < Y.length → ∃ b off, ad = some ⟨b, off, none⟩ ∧ b < w.heap.size ∧ w.cell? ⟨b, off + i, none⟩ = some (.int .u64 (Y.getD i 0 : Nat))
theorem SrW.below {w w' : World} {ad : Option Addr} {Y : List Nat} (h : SrW w ad Y) (k : Below w.heap.size w w') : SrW w' ad Y := fun i hi => by
  obtain ⟨b, off, e, hb, hc⟩ := h i hi
  exact ⟨b, off, e, Nat.lt_of_lt_of_le hb k.size, (k.cell (p := ⟨b, off + i, none⟩) hb).trans hc⟩
/-- A body: as many of these words as it has, and 0 where they are fewer. -/
def fillW (B : Nat) (Y : List Nat) : List Nat := (Y ++ List.replicate B 0).take B
theorem fillW_len (B : Nat) (Y : List Nat) : (fillW B Y).length = B := by simp [fillW]
theorem splice_fill (B : Nat) (Y : List Nat) : (splice (List.replicate B (Value.int .u64 0)) 0 (Mm.wordsOf (Y.take B)).toList).toArray = Mm.wordsOf (fillW B Y) := by
  unfold splice fillW Mm.wordsOf
  apply Array.ext'
  have e : B - min B Y.length = min (B - Y.length) B := by omega
  simp [List.take_append, List.take_replicate, List.drop_replicate, e]

theorem getN_fill {B : Nat} {Y : List Nat} (h : ∀ i, Y.getD i 0 < 18446744073709551616) (i : Nat) : (fillW B Y).getD i 0 < 18446744073709551616 := by
  unfold fillW
  rw [List.getD_eq_getElem?_getD, List.getElem?_take]
  split
  · rw [List.getElem?_append]
    split
    · have := h i
      rwa [List.getD_eq_getElem?_getD] at this
    · rw [List.getElem?_replicate]
      split <;> simp
  · simp

/-- What of a made block is told, without its cells. -/
structure NewBlk (w w' : World) (P : Nat) (c : Array Value) (t : TypeId) : Prop where
  blk : w'.heap[P]? = some (.cells c t (0, 0))
  new : w.heap.size ≤ P
  bel : Below w.heap.size w w'

set_option maxHeartbeats 1000000 in
theorem newFree_no {s a c d g k : Int} (i : Int) (hr : (rightB s a c d g k && be i s) = false) (w : World) :
    Calls Tryd.prog 53 #[.agg (cs s a c d g k), .int .i64 i] w fun e w' => e = .returned (.pointer none) ∧ Below w.heap.size w w' := by
  have c1 := header_no i hr
  have bel := alloc_below w (.cells #[.int .i64 s, .int .i64 a, .int .i64 c, .int .i64 d, .int .i64 g, .int .i64 k] 23)
  have hh := cfg_new w s a c d g k
  clear hr
  go_enter Tryd.func53, Tryd.ntmps53
  go_wp2_with (go_at_call 47; refine (c1 _).mono ?_; rintro e w1 ⟨rfl, b⟩; replace bel := seq_below bel b)
  go_ret
  exact ⟨rfl, bel⟩

set_option maxHeartbeats 4000000 in
theorem newFree_yes {K : Cf} (hK : K.Ok) {s : Nat} (hs : s < K.S) (w : World) :
    Calls Tryd.prog 53 #[.agg K.cs, .int .i64 (s : Nat)] w fun e w' => ∃ P, e = .returned (.pointer (some ⟨P, 0, none⟩)) ∧ NewBlk w w' P #[.bool false, .bool false, .int .i64 (K.hd s : Nat), .int .i64 K.g, .int .i64 (K.S : Nat), .int .i64 K.a, .int .i64 (K.C : Nat), .int .i64 (K.D : Nat), .int .i64 K.g, .int .i64 K.k, .int .i64 (s : Nat), .int .i64 0, .int .u64 0, .int .i64 0, .int .u64 0] 61 := by
  have c1 := fun w => header_at hK hs rfl w
  have c2 := newPush_yes hK s hs
  have hz : (0 : Int) ≤ (K.hd s : Nat) := by omega
  generalize ((K.hd s : Nat) : Int) = L at *
  have bel := alloc_below w (.cells #[.int .i64 (K.S : Nat), .int .i64 K.a, .int .i64 (K.C : Nat), .int .i64 (K.D : Nat), .int .i64 K.g, .int .i64 K.k] 23)
  have hh := cfg_new w K.S K.a K.C K.D K.g K.k
  unfold Cf.cs at *
  go_enter Tryd.func53, Tryd.ntmps53
  go_upto_region 1 with fail
  generalize w.alloc (.cells #[.int .i64 (K.S : Nat), .int .i64 K.a, .int .i64 (K.C : Nat), .int .i64 (K.D : Nat), .int .i64 K.g, .int .i64 K.k] 23) = w0 at *
  obtain ⟨l0, l1, l2, l3, l4, l5⟩ := hh.cells
  go_upto_region 4 with (go_at_call 47; refine (c1 _).mono ?_; rintro e w1 ⟨rfl, b⟩; replace bel := seq_below bel b; replace hh := hh.below b; clear l0 l1 l2 l3 l4 l5)
  clear c1 b
  replace hh := hh.below (Below.refl w1.heap.size w1).drew
  replace bel := bel.drew
  obtain ⟨l0, l1, l2, l3, l4, l5⟩ := hh.cells
  go_region_with (first
    | (go_at_call 62; with_reducible refine (c2 _).mono ?_; rintro e w2 ⟨Q, rfl, hq, hQ, b⟩; replace bel := seq_below bel b; replace hh := hh.below b; clear l0 l1 l2 l3 l4 l5; obtain ⟨l0, l1, l2, l3, l4, l5⟩ := hh.cells; obtain ⟨m0, m1, m2, m3, m4, m5, m6, m7, m8⟩ := hq.cells))
  all_goals
    go_wp2
    go_ret
    exact ⟨_, rfl, ⟨new_obj _ _, bel.size, bel.alloc bel.size _⟩⟩
end Go.Proofs.YteechgmjaagbmabDoor
/- Contracts of package arena's NewMake. -/
namespace Go.Proofs.YteechgmjaagbmabDoor
open Go.RowKit
open Mm (IsMem MS touched Only IsWords)
open Hh (WT wordOf bornN okW Hr)

/-- A Make as it is made. -/
def mk0 (kind ar ep R B : Nat) (Y : List Nat) : Mk := ⟨-1, false, kind, ar, ep, R, fillW B Y, ⟨-1, false, 0, 0, 0⟩, 0, 0, 0⟩

end Go.Proofs.YteechgmjaagbmabDoor
/- Machines of arena beside a law's own blocks: one step of each, and what keeps them fit. -/
namespace Go.Proofs.YteechgmjaagbmabDoor
open Go.RowKit
open Mm (IsMem MS touched Only IsWords)
open Hh (WT wordOf bornN okW Hr)
open Tg (movedW)

theorem Cf.Ok.b3 {K : Cf} (h : K.Ok) : 3 ≤ K.B := by
  have hb := h.b
  unfold bsI at hb
  omega
theorem popX_wf {K : Cf} {X : List Nat} {p : PS} (h : PWf K p) (hX : ∀ i, X.getD i 0 < 18446744073709551616) : PWf K (popX K X p).2 := by
  unfold popX
  split
  · refine ⟨by show (if _ then 3 else 1) ≤ 3; split <;> omega, hX 3, ?_⟩
    show (if _ then 3 else 1) = 1 → _
    intro e hf
    rw [if_pos hf] at e
    omega
  split
  · exact ⟨by show 2 ≤ 3; omega, h.tp, by intro e; cases e⟩
  split
  · split
    · exact ⟨by show 3 ≤ 3; omega, h.tp, by intro e; cases e⟩
    · exact ⟨by show 0 ≤ 3; omega, h.tp, by intro e; cases e⟩
  · exact h
theorem popX_len (K : Cf) (X : List Nat) (p : PS) : (popX K X p).1.length = X.length := by
  unfold popX
  repeat' split
  all_goals simp only [List.length_set]
theorem pushX_len (K : Cf) (X : List Nat) (q : QS) : (pushX K X q).1.length = X.length := by
  unfold pushX
  repeat' split
  all_goals simp only [List.length_set]
theorem pushX_wf {K : Cf} {X : List Nat} {q : QS} (h : QWf K q) (hX : ∀ i, X.getD i 0 < 18446744073709551616) : QWf K (pushX K X q).2 := by
  unfold pushX
  split
  · exact ⟨by show 1 ≤ 3; omega, hX 3, h.sl⟩
  split
  · exact ⟨by show 2 ≤ 3; omega, h.tp, h.sl⟩
  split
  · split
    · exact ⟨by show 3 ≤ 3; omega, h.tp, h.sl⟩
    · exact ⟨by show 0 ≤ 3; omega, h.tp, h.sl⟩
  · exact h
theorem mkX_len (K : Cf) (X : List Nat) (m : Mk) : (mkX K X m).1.length = X.length := by
  unfold mkX
  repeat' split
  all_goals first | exact popX_len _ _ _ | simp only [List.length_set]
theorem frX_len (K : Cf) (X : List Nat) (f : Fr) : (frX K X f).1.length = X.length := by
  unfold frX
  split
  · rfl
  split
  · simp only [List.length_set]
  split
  · exact pushX_len _ _ _
  · rfl

/-- What a Make that is fit holds besides. -/
structure Mk.Fit (m : Mk) (K : Cf) : Prop where
  ok : m.Ok K
  tp : m.pc = 0 → m.p.pc = 2 → fst K.S m.p.tp ≠ -1
  em : m.pc = 0 → m.p.em = false
  sl : m.pc ≤ 3 → m.sl = -1 ∧ m.full = false
theorem mk0_fit {K : Cf} (hK : K.Ok) {kind ar ep R : Nat} {Y : List Nat} (hk : kind = 1 ∨ kind = 2) (ha : ar < 16) (he : ep < 18446744073709551616) (hY : ∀ i, Y.getD i 0 < 18446744073709551616) : (mk0 kind ar ep R K.B Y).Fit K :=
  ⟨⟨hk, ha, he, fillW_len _ _, fun i => getN_fill hY i, ⟨by show 0 ≤ 3; omega, by show 0 < 18446744073709551616; omega, fun h => by cases h⟩, by show 0 ≤ 4; omega, fun _ => by show 0 ≤ 2; omega, (fun h => by have : 1 ≤ 0 := h; omega), by show 0 < 4294967296; omega, fun _ => by show 0 < K.B; have := hK.b3; omega⟩, (fun _ h => by cases h), fun _ => rfl, fun _ => ⟨rfl, rfl⟩⟩
/-- What a Pop's step under way comes to. -/
theorem popX_more {K : Cf} {X : List Nat} {p : PS} (hpc : p.pc ≤ 2) (h1 : p.pc = 1 → fst K.S p.tp ≠ -1) (h2 : p.pc = 2 → fst K.S p.tp ≠ -1) (hem : p.em = false) :
    ((popX K X p).2.pc ≤ 2 ∧ (popX K X p).2.em = false ∧ (popX K X p).2.sl = p.sl ∧ ((popX K X p).2.pc = 2 → fst K.S (popX K X p).2.tp ≠ -1)) ∨
    ((popX K X p).2.pc = 3 ∧ (popX K X p).2.em = true ∧ (popX K X p).2.sl = p.sl) ∨
    ((popX K X p).2.pc = 3 ∧ (popX K X p).2.em = false ∧ ∃ s : Nat, s < K.S ∧ (popX K X p).2.sl = (s : Int)) := by
  rcases (show p.pc = 0 ∨ p.pc = 1 ∨ p.pc = 2 by omega) with h | h | h
  · have e : popX K X p = (X, ⟨p.sl, if fst K.S (X.getD 3 0) = -1 then true else p.em, if fst K.S (X.getD 3 0) = -1 then 3 else 1, X.getD 3 0, p.nx⟩) := by unfold popX; rw [if_pos h]
    rw [e]
    clear e
    generalize X.getD 3 0 = t
    by_cases hf : fst K.S t = -1
    · exact .inr (.inl (by simp [hf]))
    · exact .inl (by simp [hf, hem])
  · have e : popX K X p = (X, ⟨p.sl, p.em, 2, p.tp, nmd K.S (X.getD (K.lk (fst K.S p.tp).toNat) 0)⟩) := by unfold popX; rw [if_neg (by omega), if_pos h]
    rw [e]
    exact .inl ⟨Nat.le_refl _, hem, rfl, fun _ => h1 h⟩
  · by_cases hv : X.getD 3 0 = p.tp
    · have e : popX K X p = (X.set 3 (movedW p.tp p.nx), ⟨fst K.S p.tp, p.em, 3, p.tp, p.nx⟩) := by unfold popX; rw [if_neg (by omega), if_neg (by omega), if_pos h, if_pos hv]
      rw [e]
      refine .inr (.inr ⟨rfl, hem, ?_⟩)
      rcases fst_cases K.S p.tp with h0 | ⟨s, hs, h0, _⟩
      · exact absurd h0 (h2 h)
      · exact ⟨s, hs, h0⟩
    · have e : popX K X p = (X, ⟨p.sl, p.em, 0, p.tp, p.nx⟩) := by unfold popX; rw [if_neg (by omega), if_neg (by omega), if_pos h, if_neg hv]
      rw [e]
      exact .inl ⟨Nat.zero_le _, hem, rfl, fun h => by cases h⟩
theorem mkX_fit {K : Cf} {X : List Nat} {m : Mk} (h : m.Fit K) (h3 : m.pc ≤ 3) (hX : ∀ i, X.getD i 0 < 18446744073709551616) : (mkX K X m).2.Fit K := by
  have ok := h.ok
  rcases (show m.pc = 0 ∨ m.pc = 1 ∨ m.pc = 2 ∨ m.pc = 3 by omega) with e | e | e | e
  · have hwf := popX_wf (X := X) ok.wf hX
    have hn := ok.nx (by omega)
    have hs := h.sl (by omega)
    unfold mkX
    rw [if_pos e]
    rcases popX_more (X := X) (ok.p0 e) ok.wf.one (h.tp e) (h.em e) with ⟨a1, a2, a3, a4⟩ | ⟨a1, a2, a3⟩ | ⟨a1, a2, s, hs2, a3⟩
    · rw [if_neg (by omega)]
      exact ⟨⟨ok.kind, ok.ar, ok.e, ok.len, ok.fits, hwf, ok.pc, fun _ => a1, (fun h1 _ => by have : 1 ≤ m.pc := h1; omega), ok.gen, fun _ => hn⟩, fun _ => a4, fun _ => a2, fun _ => hs⟩
    · simp only [if_pos a1, if_pos a2]
      exact ⟨⟨ok.kind, ok.ar, ok.e, ok.len, ok.fits, hwf, Nat.le_refl _, (fun h => by cases h), (fun _ h1 => by have : 4 ≤ 3 := h1; omega), ok.gen, fun h1 => by have : 4 ≤ 2 := h1; omega⟩, (fun h => by cases h), (fun h => by cases h), fun h1 => by have : 4 ≤ 3 := h1; omega⟩
    · simp only [if_pos a1, a2, Bool.false_eq_true, if_false]
      exact ⟨⟨ok.kind, ok.ar, ok.e, ok.len, ok.fits, hwf, by show 1 ≤ 4; omega, (fun h => by cases h), (fun _ _ => ⟨s, hs2, a3⟩), ok.gen, fun _ => hn⟩, (fun h => by cases h), (fun h => by cases h), fun _ => hs⟩
  · have hn := ok.nx (by omega)
    have hs := h.sl (by omega)
    have hsm := ok.some (by omega) (by omega)
    unfold mkX
    rw [if_neg (by omega), if_pos e]
    exact ⟨⟨ok.kind, ok.ar, ok.e, ok.len, ok.fits, ok.wf, by show 2 ≤ 4; omega, (fun h => by cases h), (fun _ _ => hsm), genW_lt _, fun _ => hn⟩, (fun h => by cases h), (fun h => by cases h), fun _ => hs⟩
  · have hn := ok.nx (by omega)
    have hl := ok.len
    have hs := h.sl (by omega)
    have hsm := ok.some (by omega) (by omega)
    unfold mkX
    rw [if_neg (by omega), if_neg (by omega), if_pos e]
    by_cases hd : m.nx + 1 = m.body.length
    · rw [if_pos hd]
      exact ⟨⟨ok.kind, ok.ar, ok.e, ok.len, ok.fits, ok.wf, by show 3 ≤ 4; omega, (fun h => by cases h), (fun _ _ => hsm), ok.gen, fun h1 => by have : 3 ≤ 2 := h1; omega⟩, (fun h => by cases h), (fun h => by cases h), fun _ => hs⟩
    · rw [if_neg hd]
      exact ⟨⟨ok.kind, ok.ar, ok.e, ok.len, ok.fits, ok.wf, by show 2 ≤ 4; omega, (fun h => by cases h), (fun _ _ => hsm), ok.gen, fun _ => by show m.nx + 1 < K.B; omega⟩, (fun h => by cases h), (fun h => by cases h), fun _ => hs⟩
  · unfold mkX
    rw [if_neg (by omega), if_neg (by omega), if_neg (by omega), if_pos e]
    exact ⟨⟨ok.kind, ok.ar, ok.e, ok.len, ok.fits, ok.wf, Nat.le_refl _, (fun h => by cases h), (fun _ h1 => by have : 4 ≤ 3 := h1; omega), ok.gen, fun h1 => by have : 4 ≤ 2 := h1; omega⟩, (fun h => by cases h), (fun h => by cases h), fun h1 => by have : 4 ≤ 3 := h1; omega⟩
theorem frX_ok {K : Cf} {X : List Nat} {f : Fr} (h : f.Ok K) (h2 : f.pc ≤ 2) (hX : ∀ i, X.getD i 0 < 18446744073709551616) : (frX K X f).2.Ok K := by
  have hq := h.q2 h2
  rcases (show f.pc = 0 ∨ f.pc = 1 ∨ f.pc = 2 by omega) with e | e | e
  · unfold frX
    rw [if_pos e]
    exact ⟨h.wf, by show (if _ then 1 else 3) ≤ 3; split <;> omega, fun _ => hq, fdW_lt (hX _) _⟩
  · unfold frX
    rw [if_neg (by omega), if_pos e]
    by_cases hk : kdW f.fd = 4
    · rw [if_pos hk]
      exact ⟨h.wf, Nat.le_refl _, fun _ => hq, h.fd⟩
    · rw [if_neg hk]
      exact ⟨h.wf, by show 2 ≤ 3; omega, fun _ => hq, h.fd⟩
  · have hw := pushX_wf (X := X) h.wf hX
    unfold frX
    rw [if_neg (by omega), if_neg (by omega), if_pos e]
    by_cases hk : (pushX K X f.q).2.pc = 3
    · rw [if_pos hk]
      exact ⟨hw, Nat.le_refl _, (fun h1 => by have : 3 ≤ 2 := h1; omega), h.fd⟩
    · rw [if_neg hk]
      exact ⟨hw, h.pc, (fun _ => by have := hw.pc; show (pushX K X f.q).2.pc ≤ 2; omega), h.fd⟩

theorem mkX_body (K : Cf) (X : List Nat) (m : Mk) : (mkX K X m).2.bb = m.bb ∧ (mkX K X m).2.body = m.body ∧ (mkX K X m).2.kind = m.kind ∧ (mkX K X m).2.ar = m.ar ∧ (mkX K X m).2.e = m.e := by
  unfold mkX
  repeat' split
  all_goals exact ⟨rfl, rfl, rfl, rfl, rfl⟩
end Go.Proofs.YteechgmjaagbmabDoor
/- The law's own 'awake': the document's example. -/
namespace Go.Proofs.YteechgmjaagbmabDoor
open Go.RowKit
open Mm (IsMem MS touched Only IsWords zeroMS)
open Hh (WT wordOf bornN okW Hr)

def K1 : Cf := ⟨1, 0, 1, 1, 2, 0, 3⟩
theorem K1_ok : K1.Ok := ⟨by decide, by decide, by decide, by decide, by decide, by decide, by decide, by decide⟩
def memK0 (K : Cf) : MS := zeroMS (memX K.C K.D K.B K.N (K.S - 1))
theorem wordsX {w : World} {M G : Nat} {X : List Nat} {T : Int} {n : Nat} (h : MemX w M G X T) (hn : X.length = n) (hl : n ≤ 65536) : Calls Tryd.prog 13 #[.pointer (some ⟨M, 0, none⟩)] w fun e w' => ∃ R, e = .returned (.slice (some ⟨R, 0, none⟩) n n) ∧ IsWords w' R X ∧ w.heap.size ≤ R ∧ Below w.heap.size w w' := by
  obtain ⟨m, hm, hX, _⟩ := h
  subst hX hn
  exact Mm.words_any hm hl

end Go.Proofs.YteechgmjaagbmabDoor
