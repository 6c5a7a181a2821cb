/- Contracts of package arena's Make: its own helpers. -/
import Derived.Test.YtjbjijkkmlehgaaDoorAPop
import Derived.Test.YtjbjijkkmlehgaaDoorHhHLaws
import Derived.Test.YtjbjijkkmlehgaaDoorHhHRet
namespace Go.Proofs.YtjbjijkkmlehgaaDoor
open Go.RowKit
open Mm (IsMem MS touched Only IsWords)
open Hh (WT wordOf bornN okW Hr)

/-- What a Make holds: the slot that it made, whether there was none, what it is to make, the body and the block in which that lies, what takes a slot, how far it is, the generation, the next word. -/
structure Mk where
  sl : Int
  full : Bool
  kind : Nat
  ar : Nat
  e : Nat
  bb : Nat
  body : List Nat
  p : PS
  pc : Nat
  gen : Nat
  nx : Nat
structure MkAt (c : Array Value) (K : Cf) (m : Mk) : Prop where
  sl : c[0]? = some (.int .i64 m.sl)
  full : c[1]? = some (.bool m.full)
  k0 : c[2]? = some (.int .i64 (K.S : Nat))
  k1 : c[3]? = some (.int .i64 K.a)
  k2 : c[4]? = some (.int .i64 (K.C : Nat))
  k3 : c[5]? = some (.int .i64 (K.D : Nat))
  k4 : c[6]? = some (.int .i64 K.g)
  k5 : c[7]? = some (.int .i64 K.k)
  kind : c[8]? = some (.int .i64 (m.kind : Nat))
  ar : c[9]? = some (.int .i64 (m.ar : Nat))
  e : c[10]? = some (.int .u64 (m.e : Nat))
  body : c[11]? = some (.slice (some ⟨m.bb, 0, none⟩) m.body.length m.body.length)
  p : PoAt c 12 K m.p
  pc : c[23]? = some (.int .i64 (m.pc : Nat))
  gen : c[24]? = some (.int .i64 (m.gen : Nat))
  nx : c[25]? = some (.int .i64 (m.nx : Nat))
theorem MkAt.size {c : Array Value} {K : Cf} {m : Mk} (h : MkAt c K m) : 25 < c.size := lt_get h.nx
theorem MkAt.pop {c c' : Array Value} {K : Cf} {m : Mk} {p : PS} (h : MkAt c K m) (s : Same c c' 12 22) (hp : PoAt c' 12 K p) : MkAt c' K { m with p := p } :=
  ⟨(s.out _ (by omega)).trans h.sl, (s.out _ (by omega)).trans h.full, (s.out _ (by omega)).trans h.k0, (s.out _ (by omega)).trans h.k1, (s.out _ (by omega)).trans h.k2, (s.out _ (by omega)).trans h.k3, (s.out _ (by omega)).trans h.k4, (s.out _ (by omega)).trans h.k5, (s.out _ (by omega)).trans h.kind, (s.out _ (by omega)).trans h.ar, (s.out _ (by omega)).trans h.e, (s.out _ (by omega)).trans h.body, hp, (s.out _ (by omega)).trans h.pc, (s.out _ (by omega)).trans h.gen, (s.out _ (by omega)).trans h.nx⟩
theorem MkAt.put_pc {c : Array Value} {K : Cf} {m : Mk} (h : MkAt c K m) (v : Nat) : MkAt (c.setIfInBounds 23 (.int .i64 (v : Nat))) K { m with pc := v } := by
  have := h.size
  exact ⟨(get_set_ne (by omega)).trans h.sl, (get_set_ne (by omega)).trans h.full, (get_set_ne (by omega)).trans h.k0, (get_set_ne (by omega)).trans h.k1, (get_set_ne (by omega)).trans h.k2, (get_set_ne (by omega)).trans h.k3, (get_set_ne (by omega)).trans h.k4, (get_set_ne (by omega)).trans h.k5, (get_set_ne (by omega)).trans h.kind, (get_set_ne (by omega)).trans h.ar, (get_set_ne (by omega)).trans h.e, (get_set_ne (by omega)).trans h.body, h.p.same (Same.set c (a := 23) (b := 23) _ (by omega)) (by omega), get_set (by omega), (get_set_ne (by omega)).trans h.gen, (get_set_ne (by omega)).trans h.nx⟩
theorem MkAt.put_gen {c : Array Value} {K : Cf} {m : Mk} (h : MkAt c K m) (v : Nat) : MkAt (c.setIfInBounds 24 (.int .i64 (v : Nat))) K { m with gen := v } := by
  have := h.size
  exact ⟨(get_set_ne (by omega)).trans h.sl, (get_set_ne (by omega)).trans h.full, (get_set_ne (by omega)).trans h.k0, (get_set_ne (by omega)).trans h.k1, (get_set_ne (by omega)).trans h.k2, (get_set_ne (by omega)).trans h.k3, (get_set_ne (by omega)).trans h.k4, (get_set_ne (by omega)).trans h.k5, (get_set_ne (by omega)).trans h.kind, (get_set_ne (by omega)).trans h.ar, (get_set_ne (by omega)).trans h.e, (get_set_ne (by omega)).trans h.body, h.p.same (Same.set c (a := 24) (b := 24) _ (by omega)) (by omega), (get_set_ne (by omega)).trans h.pc, get_set (by omega), (get_set_ne (by omega)).trans h.nx⟩
theorem MkAt.put_nx {c : Array Value} {K : Cf} {m : Mk} (h : MkAt c K m) (v : Nat) : MkAt (c.setIfInBounds 25 (.int .i64 (v : Nat))) K { m with nx := v } := by
  have := h.size
  exact ⟨(get_set_ne (by omega)).trans h.sl, (get_set_ne (by omega)).trans h.full, (get_set_ne (by omega)).trans h.k0, (get_set_ne (by omega)).trans h.k1, (get_set_ne (by omega)).trans h.k2, (get_set_ne (by omega)).trans h.k3, (get_set_ne (by omega)).trans h.k4, (get_set_ne (by omega)).trans h.k5, (get_set_ne (by omega)).trans h.kind, (get_set_ne (by omega)).trans h.ar, (get_set_ne (by omega)).trans h.e, (get_set_ne (by omega)).trans h.body, h.p.same (Same.set c (a := 25) (b := 25) _ (by omega)) (by omega), (get_set_ne (by omega)).trans h.pc, (get_set_ne (by omega)).trans h.gen, get_set (by omega)⟩
theorem MkAt.put_full {c : Array Value} {K : Cf} {m : Mk} (h : MkAt c K m) (v : Bool) : MkAt (c.setIfInBounds 1 (.bool v)) K { m with full := v } := by
  have := h.size
  exact ⟨(get_set_ne (by omega)).trans h.sl, get_set (by omega), (get_set_ne (by omega)).trans h.k0, (get_set_ne (by omega)).trans h.k1, (get_set_ne (by omega)).trans h.k2, (get_set_ne (by omega)).trans h.k3, (get_set_ne (by omega)).trans h.k4, (get_set_ne (by omega)).trans h.k5, (get_set_ne (by omega)).trans h.kind, (get_set_ne (by omega)).trans h.ar, (get_set_ne (by omega)).trans h.e, (get_set_ne (by omega)).trans h.body, h.p.same (Same.set c (a := 1) (b := 1) _ (by omega)) (by omega), (get_set_ne (by omega)).trans h.pc, (get_set_ne (by omega)).trans h.gen, (get_set_ne (by omega)).trans h.nx⟩
theorem MkAt.put_sl {c : Array Value} {K : Cf} {m : Mk} (h : MkAt c K m) (v : Int) : MkAt (c.setIfInBounds 0 (.int .i64 v)) K { m with sl := v } := by
  have := h.size
  exact ⟨get_set (by omega), (get_set_ne (by omega)).trans h.full, (get_set_ne (by omega)).trans h.k0, (get_set_ne (by omega)).trans h.k1, (get_set_ne (by omega)).trans h.k2, (get_set_ne (by omega)).trans h.k3, (get_set_ne (by omega)).trans h.k4, (get_set_ne (by omega)).trans h.k5, (get_set_ne (by omega)).trans h.kind, (get_set_ne (by omega)).trans h.ar, (get_set_ne (by omega)).trans h.e, (get_set_ne (by omega)).trans h.body, h.p.same (Same.set c (a := 0) (b := 0) _ (by omega)) (by omega), (get_set_ne (by omega)).trans h.pc, (get_set_ne (by omega)).trans h.gen, (get_set_ne (by omega)).trans h.nx⟩

def Mk.slot (m : Mk) : Nat := m.p.sl.toNat
/-- The generation of a header's word, 0 where it is no right one. -/
def genW (W : Nat) : Nat := if okW W = true then W / 65536 % 4294967296 else 0
theorem genW_lt (W : Nat) : genW W < 4294967296 := by unfold genW; split <;> omega
/-- The word of what is made. -/
def madeW (k a n e : Nat) : Nat := wordOf k (bornN e) (false : Bool).toNat a n 0
/-- A Make's step on the words. -/
def mkX (K : Cf) (X : List Nat) (m : Mk) : List Nat × Mk :=
  if m.pc = 0 then
    ((popX K X m.p).1, if (popX K X m.p).2.pc = 3 then
        (if (popX K X m.p).2.em = true then { m with p := (popX K X m.p).2, full := true, pc := 4 } else { m with p := (popX K X m.p).2, pc := 1 })
      else { m with p := (popX K X m.p).2 })
  else if m.pc = 1 then (X, { m with gen := genW (X.getD (K.hd m.slot) 0), pc := 2 })
  else if m.pc = 2 then (X.set (K.bd m.slot m.nx) (m.body.getD m.nx 0), { m with nx := m.nx + 1, pc := if m.nx + 1 = m.body.length then 3 else 2 })
  else if m.pc = 3 then (X.set (K.hd m.slot) (madeW m.kind m.ar m.gen m.e), { m with sl := m.p.sl, pc := 4 })
  else (X, m)
structure Mk.Ok (m : Mk) (K : Cf) : Prop where
  kind : m.kind = 1 ∨ m.kind = 2
  ar : m.ar < 16
  e : m.e < 18446744073709551616
  len : m.body.length = K.B
  fits : ∀ i, m.body.getD i 0 < 18446744073709551616
  wf : PWf K m.p
  pc : m.pc ≤ 4
  p0 : m.pc = 0 → m.p.pc ≤ 2
  some : 1 ≤ m.pc → m.pc ≤ 3 → ∃ s : Nat, s < K.S ∧ m.p.sl = (s : Int)
  gen : m.gen < 4294967296
  nx : m.pc ≤ 2 → m.nx < K.B

set_option maxHeartbeats 2000000 in
theorem take_go {w : World} {M G N P : Nat} {X' : List Nat} {T' : Int} {c : Array Value} {t : TypeId} {K : Cf} {m : Mk} {p' : PS} (hm : MkAt c K m)
    (c0 : Calls Tryd.prog 67 #[.pointer (some ⟨P, 12, none⟩), .pointer (some ⟨M, 0, none⟩)] w fun r w' => r = .returned (.bool false) ∧ ∃ c', InA w w' M G N X' T' P c' t ∧ PoAt c' 12 K p' ∧ Same c c' 12 22) :
    Calls Tryd.prog 48 #[.pointer (some ⟨P, 0, none⟩), .pointer (some ⟨M, 0, none⟩)] w fun r w' => r = .returned (.tuple #[]) ∧ ∃ c', InA w w' M G N X' T' P c' t ∧ MkAt c' K { m with p := p' } := by
  go_enter Tryd.func48, Tryd.ntmps48
  go_wp2_with (go_at_call 67; refine c0.mono ?_; rintro e w1 ⟨rfl, c1, i1, p1, s1⟩)
  exact bodyPost_ret (results_none rfl _ _ _) rfl ⟨rfl, c1, i1, hm.pop s1 p1⟩

set_option maxHeartbeats 2000000 in
theorem take_done {w : World} {M G N P : Nat} {X' : List Nat} {T' : Int} {c : Array Value} {t : TypeId} {K : Cf} {m : Mk} {p' : PS} (hm : MkAt c K m)
    (c0 : Calls Tryd.prog 67 #[.pointer (some ⟨P, 12, none⟩), .pointer (some ⟨M, 0, none⟩)] w fun r w' => r = .returned (.bool true) ∧ ∃ c', InA w w' M G N X' T' P c' t ∧ PoAt c' 12 K p' ∧ Same c c' 12 22) :
    Calls Tryd.prog 48 #[.pointer (some ⟨P, 0, none⟩), .pointer (some ⟨M, 0, none⟩)] w fun r w' => r = .returned (.tuple #[]) ∧ ∃ c', InA w w' M G N X' T' P c' t ∧ MkAt c' K (if p'.em = true then { m with p := p', full := true, pc := 4 } else { m with p := p', pc := 1 }) := by
  obtain ⟨sl', em', pc', tp', nx'⟩ := p'
  simp only
  cases em'
  · simp only [Bool.false_eq_true, if_false]
    go_enter Tryd.func48, Tryd.ntmps48
    go_upto_region 1 with (go_at_call 67; refine c0.mono ?_; rintro e w1 ⟨rfl, c1, i1, p1, s1⟩)
    replace hm := hm.pop s1 p1
    have l23 := i1.cell hm.pc
    have f23 := i1.free 23
    have i2 := i1.set 23 (.int .i64 1)
    replace hm : MkAt (c1.setIfInBounds 23 (.int .i64 1)) K _ := hm.put_pc 1
    clear c0 i1 p1 s1
    go_upto_region 2 with fail
    clear l23 f23
    generalize w1.setCell ⟨P, 23, none⟩ (.int .i64 1) = w2 at *
    have l13 := i2.cell hm.p.em
    simp only at l13
    go_wp2
    go_end0
    exact ⟨rfl, _, i2, hm⟩
  · simp only [if_true]
    go_enter Tryd.func48, Tryd.ntmps48
    go_upto_region 1 with (go_at_call 67; refine c0.mono ?_; rintro e w1 ⟨rfl, c1, i1, p1, s1⟩)
    replace hm := hm.pop s1 p1
    have l23 := i1.cell hm.pc
    have f23 := i1.free 23
    have i2 := i1.set 23 (.int .i64 1)
    replace hm : MkAt (c1.setIfInBounds 23 (.int .i64 1)) K _ := hm.put_pc 1
    clear c0 i1 p1 s1
    go_upto_region 2 with fail
    clear l23 f23
    generalize w1.setCell ⟨P, 23, none⟩ (.int .i64 1) = w2 at *
    generalize c1.setIfInBounds 23 (.int .i64 1) = c2 at *
    have l13 := i2.cell hm.p.em
    simp only at l13
    have l1 := i2.cell hm.full
    have f1 := i2.free 1
    have i3 := i2.set 1 (.bool true)
    replace hm := hm.put_full true
    go_upto_region 4 with fail
    clear l13 l1 f1 i2
    generalize w2.setCell ⟨P, 1, none⟩ (.bool true) = w3 at *
    have l23 := i3.cell hm.pc
    have f23 := i3.free 23
    have i4 := i3.set 23 (.int .i64 4)
    replace hm := hm.put_pc 4
    clear i3
    go_wp2
    go_end0
    exact ⟨rfl, _, i4, hm⟩

/-- The cells that the store of a body's word reads. -/
theorem MkAt.rdW {w wr : World} {M G N P : Nat} {X : List Nat} {T : Int} {c : Array Value} {t : TypeId} {K : Cf} {m : Mk} (h : MkAt c K m) (is : InA w wr M G N X T P c t) (hb : IsWords wr m.bb m.body) (hi : m.nx < m.body.length) :
    wr.cell? ⟨P, 2, none⟩ = some (.int .i64 (K.S : Nat)) ∧ wr.cell? ⟨P, 3, none⟩ = some (.int .i64 K.a) ∧ wr.cell? ⟨P, 4, none⟩ = some (.int .i64 (K.C : Nat)) ∧ wr.cell? ⟨P, 5, none⟩ = some (.int .i64 (K.D : Nat)) ∧ wr.cell? ⟨P, 6, none⟩ = some (.int .i64 K.g) ∧ wr.cell? ⟨P, 7, none⟩ = some (.int .i64 K.k) ∧ wr.cell? ⟨P, 12, none⟩ = some (.int .i64 m.p.sl) ∧ wr.cell? ⟨P, 25, none⟩ = some (.int .i64 (m.nx : Nat)) ∧ wr.cell? ⟨P, 11, none⟩ = some (.slice (some ⟨m.bb, 0, none⟩) m.body.length m.body.length) ∧ wr.cell? ⟨m.bb, m.nx, none⟩ = some (.int .u64 (m.body.getD m.nx 0 : Nat)) :=
  ⟨is.cell h.k0, is.cell h.k1, is.cell h.k2, is.cell h.k3, is.cell h.k4, is.cell h.k5, is.cell h.p.sl, is.cell h.nx, is.cell h.body, Mm.words_at hb _ hi⟩
theorem words_chg {L : List Nat} {w w' : World} {R : Nat} {X : List Nat} (h : IsWords w R X) (c : Chg L w w') (hn : R ∉ L) : IsWords w' R X := c.at (show w.heap[R]? = _ from h) hn

set_option maxHeartbeats 4000000 in
theorem storeWord_as {w : World} {M G N P : Nat} {X : List Nat} {T : Int} {c : Array Value} {t : TypeId} {K : Cf} {m : Mk} (is : InA w w M G N X T P c t) (hm : MkAt c K m) (hT : T + 1 < 4611686018427387904) {L s : Nat} (hL : L < N) (hs : m.p.sl = (s : Int)) (hi : m.nx < m.body.length) (hl8 : m.body.length ≤ 8) (hb : IsWords w m.bb m.body) (hbb : m.bb ∉ [P, M, G]) {v : Nat} (hv : m.body.getD m.nx 0 = v) (hv64 : v < 18446744073709551616)
    (c1 : ∀ w, Calls Tryd.prog 59 #[.agg (cs K.S K.a K.C K.D K.g K.k), .int .i64 (s : Nat), .int .i64 (m.nx : Nat)] w fun e w' => e = .returned (.int .i64 (L : Nat)) ∧ Below w.heap.size w w') :
    Calls Tryd.prog 51 #[.pointer (some ⟨P, 0, none⟩), .pointer (some ⟨M, 0, none⟩)] w fun r w' => r = .returned (.tuple #[]) ∧ ∃ c', InA w w' M G N (X.set L v) (T + 1) P c' t ∧ MkAt c' K { m with nx := m.nx + 1, pc := if m.nx + 1 = m.body.length then 3 else m.pc } := by
  have htb := is.tb
  have hlen := is.len
  have c0 : ∀ wr, InA w wr M G N X T P c t → Calls Tryd.prog 24 #[.pointer (some ⟨M, 0, none⟩), .int .i64 (L : Nat), .int .u64 (v : Nat)] wr fun e w' => e = .returned (.bool true) ∧ InA w w' M G N (X.set L v) (T + 1) P c t := fun wr x =>
    (storeX x.mem (by rw [hlen]; exact hL) hv64 htb).mono fun e w' ⟨h1, h2, h3⟩ => ⟨h1, x.only h2 h3 (by rw [List.length_set]; exact hlen) (by omega)⟩
  have hrd : ∀ wr X T, InA w wr M G N X T P c t → _ := fun wr X T x => hm.rdW x (words_chg hb x.ch hbb) hi
  rw [hv, hs] at hrd
  have n1 := hm.put_nx (m.nx + 1)
  have n2 := n1.put_pc 3
  have hrn : ∀ wr X T, InA w wr M G N X T P c t → wr.cell? ⟨P, 25, none⟩ = some (.int .i64 (m.nx : Nat)) ∧ wr.frozen? ⟨P, 25, none⟩ = false := fun wr X T x => ⟨x.cell hm.nx, x.free 25⟩
  clear hL hv hv64 hb hbb
  generalize hn : m.body.length = n at *
  obtain ⟨z, hz⟩ : ∃ z, (if m.nx + 1 = n then 3 else m.pc) = z := ⟨_, rfl⟩
  rw [hz]
  replace is := is.below (Below.refl _ _)
  go_enter Tryd.func51, Tryd.ntmps51
  go_upto_region 0 with fail
  replace is := is.drew
  go_region_held (fun wr => wr.cell? ⟨P, 2, none⟩ = some (.int .i64 (K.S : Nat)) ∧ wr.cell? ⟨P, 3, none⟩ = some (.int .i64 K.a) ∧ wr.cell? ⟨P, 4, none⟩ = some (.int .i64 (K.C : Nat)) ∧ wr.cell? ⟨P, 5, none⟩ = some (.int .i64 (K.D : Nat)) ∧ wr.cell? ⟨P, 6, none⟩ = some (.int .i64 K.g) ∧ wr.cell? ⟨P, 7, none⟩ = some (.int .i64 K.k) ∧ wr.cell? ⟨P, 12, none⟩ = some (.int .i64 (s : Nat)) ∧ wr.cell? ⟨P, 25, none⟩ = some (.int .i64 (m.nx : Nat)) ∧ wr.cell? ⟨P, 11, none⟩ = some (.slice (some ⟨m.bb, 0, none⟩) n n) ∧ wr.cell? ⟨m.bb, m.nx, none⟩ = some (.int .u64 (v : Nat))) (with_reducible exact hrd _ _ _ is) (first
    | (go_at_call 59; with_reducible refine (c1 _).mono ?_; rintro e w3 ⟨rfl, b⟩; replace is := is.below b)
    | (go_at_call 24; with_reducible refine (c0 _ is).mono ?_; rintro e w3 ⟨rfl, i1⟩; clear is; have is := i1; clear i1))
  clear c0 c1 hrd
  obtain ⟨l25, f25⟩ := hrn _ _ _ is
  have i2 := is.set 25 (.int .i64 ((m.nx + 1 : Nat) : Int))
  push_cast at i2
  have q1 : IntKind.i64.wrap ((m.nx : Int) + 1) = (m.nx : Int) + 1 := by rw [IntKind.wrap_i64]; omega
  clear is hrn
  go_upto_region 2 with fail
  clear l25 f25
  generalize w3.setCell ⟨P, 25, none⟩ (.int .i64 ((m.nx : Int) + 1)) = w4 at *
  push_cast at n1 n2
  have k25 := i2.cell n1.nx
  have k11 := i2.cell n1.body
  simp only [hn] at k11
  push_cast at k25
  replace i2 := i2.drew
  by_cases he : m.nx + 1 = n
  · obtain rfl : z = 3 := by rw [← hz, if_pos he]
    have he' : ((m.nx : Int) + 1 == (n : Int)) = true := by simp; omega
    clear hz q1 hi he
    have k23 := i2.cell n1.pc
    have f23 := i2.free 23
    replace i2 := i2.set 23 (.int .i64 3)
    generalize (m.nx : Int) + 1 = j at *
    go_region_held (fun wr => wr.cell? ⟨P, 25, none⟩ = some (.int .i64 j) ∧ wr.cell? ⟨P, 11, none⟩ = some (.slice (some ⟨m.bb, 0, none⟩) n n)) (exact ⟨k25, k11⟩) (fail)
    go_wp2
    go_end0
    exact ⟨rfl, _, i2, n2⟩
  · obtain rfl : z = m.pc := by rw [← hz, if_neg he]
    have he' : ((m.nx : Int) + 1 == (n : Int)) = false := by simp; omega
    clear hz q1 hi n2 he
    generalize (m.nx : Int) + 1 = j at *
    go_region_held (fun wr => wr.cell? ⟨P, 25, none⟩ = some (.int .i64 j) ∧ wr.cell? ⟨P, 11, none⟩ = some (.slice (some ⟨m.bb, 0, none⟩) n n)) (exact ⟨k25, k11⟩) (fail)
    go_wp2
    go_end0
    exact ⟨rfl, _, i2, n1⟩

/-- The cells that the store of the header reads. -/
theorem MkAt.rdH {w wr : World} {M G N P : Nat} {X : List Nat} {T : Int} {c : Array Value} {t : TypeId} {K : Cf} {m : Mk} (h : MkAt c K m) (is : InA w wr M G N X T P c t) :
    wr.cell? ⟨P, 8, none⟩ = some (.int .i64 (m.kind : Nat)) ∧ wr.cell? ⟨P, 9, none⟩ = some (.int .i64 (m.ar : Nat)) ∧ wr.cell? ⟨P, 24, none⟩ = some (.int .i64 (m.gen : Nat)) ∧ wr.cell? ⟨P, 10, none⟩ = some (.int .u64 (m.e : Nat)) :=
  ⟨is.cell h.kind, is.cell h.ar, is.cell h.gen, is.cell h.e⟩
theorem MkAt.rdC {w wr : World} {M G N P : Nat} {X : List Nat} {T : Int} {c : Array Value} {t : TypeId} {K : Cf} {m : Mk} (h : MkAt c K m) (is : InA w wr M G N X T P c t) :
    wr.cell? ⟨P, 2, none⟩ = some (.int .i64 (K.S : Nat)) ∧ wr.cell? ⟨P, 3, none⟩ = some (.int .i64 K.a) ∧ wr.cell? ⟨P, 4, none⟩ = some (.int .i64 (K.C : Nat)) ∧ wr.cell? ⟨P, 5, none⟩ = some (.int .i64 (K.D : Nat)) ∧ wr.cell? ⟨P, 6, none⟩ = some (.int .i64 K.g) ∧ wr.cell? ⟨P, 7, none⟩ = some (.int .i64 K.k) ∧ wr.cell? ⟨P, 12, none⟩ = some (.int .i64 m.p.sl) :=
  ⟨is.cell h.k0, is.cell h.k1, is.cell h.k2, is.cell h.k3, is.cell h.k4, is.cell h.k5, is.cell h.p.sl⟩

set_option maxHeartbeats 4000000 in
theorem storeHeader_as {w : World} {M G N P : Nat} {X : List Nat} {T : Int} {c : Array Value} {t : TypeId} {K : Cf} {m : Mk} (is : InA w w M G N X T P c t) (hm : MkAt c K m) (hT : T + 1 < 4611686018427387904) {L s : Nat} (hL : L < N) (hs : m.p.sl = (s : Int)) {V : Nat} (hV : V < 18446744073709551616)
    (c1 : ∀ w, WT w → Calls Tryd.prog 70 #[.int .i64 (m.kind : Nat), .int .i64 (m.ar : Nat), .int .i64 (m.gen : Nat), .int .u64 (m.e : Nat)] w fun e w' => e = .returned (.tuple #[.int .u64 (V : Nat), .bool true]) ∧ Below w.heap.size w w')
    (c2 : ∀ w, Calls Tryd.prog 39 #[.agg (cs K.S K.a K.C K.D K.g K.k), .int .i64 (s : Nat)] w fun e w' => e = .returned (.int .i64 (L : Nat)) ∧ Below w.heap.size w w') :
    Calls Tryd.prog 52 #[.pointer (some ⟨P, 0, none⟩), .pointer (some ⟨M, 0, none⟩)] w fun r w' => r = .returned (.tuple #[]) ∧ ∃ c', InA w w' M G N (X.set L V) (T + 1) P c' t ∧ MkAt c' K { m with sl := m.p.sl, pc := 4 } := by
  have htb := is.tb
  have hlen := is.len
  have c0 : ∀ wr, InA w wr M G N X T P c t → Calls Tryd.prog 24 #[.pointer (some ⟨M, 0, none⟩), .int .i64 (L : Nat), .int .u64 (V : Nat)] wr fun e w' => e = .returned (.bool true) ∧ InA w w' M G N (X.set L V) (T + 1) P c t := fun wr x =>
    (storeX x.mem (by rw [hlen]; exact hL) hV htb).mono fun e w' ⟨h1, h2, h3⟩ => ⟨h1, x.only h2 h3 (by rw [List.length_set]; exact hlen) (by omega)⟩
  have hrd : ∀ wr X T, InA w wr M G N X T P c t → _ := fun wr X T x => hm.rdH x
  have hrc : ∀ wr X T, InA w wr M G N X T P c t → _ := fun wr X T x => hm.rdC x
  rw [hs] at hrc
  have n1 := hm.put_sl m.p.sl
  have n2 := n1.put_pc 4
  have l12 : ∀ wr X T, InA w wr M G N X T P c t → wr.cell? ⟨P, 12, none⟩ = some (.int .i64 m.p.sl) ∧ wr.cell? ⟨P, 0, none⟩ = some (.int .i64 m.sl) ∧ wr.frozen? ⟨P, 0, none⟩ = false := fun wr X T x => ⟨x.cell hm.p.sl, x.cell hm.sl, x.free 0⟩
  rw [hs] at l12
  rw [hs] at n1 n2
  rw [hs]
  clear hL hV hs hm
  generalize (m.kind : Int) = kind at *
  generalize (m.ar : Int) = ar at *
  generalize (m.gen : Int) = gen at *
  generalize (m.e : Int) = e at *
  generalize (V : Int) = v at *
  replace is := is.below (Below.refl _ _)
  go_enter Tryd.func52, Tryd.ntmps52
  go_upto_region 0 with fail
  replace is := is.drew
  go_region_held (fun wr => wr.cell? ⟨P, 8, none⟩ = some (.int .i64 kind) ∧ wr.cell? ⟨P, 9, none⟩ = some (.int .i64 ar) ∧ wr.cell? ⟨P, 24, none⟩ = some (.int .i64 gen) ∧ wr.cell? ⟨P, 10, none⟩ = some (.int .u64 e)) (with_reducible exact hrd _ _ _ is) (first
    | (go_at_call 70; with_reducible refine (c1 _ is.wt).mono ?_; rintro e w3 ⟨rfl, b⟩; replace is := is.below b))
  clear c1 hrd b
  go_upto_region 1 with fail
  replace is := is.drew
  go_region_held (fun wr => wr.cell? ⟨P, 2, none⟩ = some (.int .i64 (K.S : Nat)) ∧ wr.cell? ⟨P, 3, none⟩ = some (.int .i64 K.a) ∧ wr.cell? ⟨P, 4, none⟩ = some (.int .i64 (K.C : Nat)) ∧ wr.cell? ⟨P, 5, none⟩ = some (.int .i64 (K.D : Nat)) ∧ wr.cell? ⟨P, 6, none⟩ = some (.int .i64 K.g) ∧ wr.cell? ⟨P, 7, none⟩ = some (.int .i64 K.k) ∧ wr.cell? ⟨P, 12, none⟩ = some (.int .i64 (s : Nat))) (with_reducible exact hrc _ _ _ is) (first
    | (go_at_call 39; with_reducible refine (c2 _).mono ?_; rintro e w4 ⟨rfl, b⟩; replace is := is.below b)
    | (go_at_call 24; with_reducible refine (c0 _ is).mono ?_; rintro e w4 ⟨rfl, i1⟩; clear is; have is := i1; clear i1))
  clear c0 c2 hrc b
  obtain ⟨k12, k0, f0⟩ := l12 _ _ _ is
  have i2 := is.set 0 (.int .i64 (s : Nat))
  clear l12 is
  go_upto_region 3 with fail
  clear k12 k0 f0
  generalize w4.setCell ⟨P, 0, none⟩ (.int .i64 (s : Nat)) = w5 at *
  have k23 := i2.cell n1.pc
  have f23 := i2.free 23
  replace i2 := i2.set 23 (.int .i64 4)
  go_wp2
  go_end0
  exact ⟨rfl, _, i2, n2⟩
end Go.Proofs.YtjbjijkkmlehgaaDoor
