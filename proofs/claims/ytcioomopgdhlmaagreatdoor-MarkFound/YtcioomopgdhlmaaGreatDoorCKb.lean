/- Contracts of mark's small methods: where a Mark goes on. -/
import Derived.Test.YtcioomopgdhlmaaGreatDoorCKs
namespace Go.Proofs.YtcioomopgdhlmaaGreatDoor
open Go.RowKit
open Mm (IsMem MS touched Only IsWords)
open Hh (WT okW)

structure NewBlk (w w' : World) (P : Nat) (c : Array Value) (t : TypeId) : Prop where
  blk : w'.heap[P]? = some (.cells c t (0, 0))
  new : w.heap.size ≤ P
  bel : Below w.heap.size w w'

/-- Where a Mark goes on. -/
def Km.cl (s : Km) (K : Cf) (a b : Nat) : Nat × Km := if s.who + 1 < K.C then (a, { s with who := s.who + 1 }) else (b, { s with who := 0 })
def Km.ns (s : Km) (K : Cf) : Nat := if s.nx < K.S then 4 else 14
def Km.nw (s : Km) (K : Cf) : Nat := if 0 < s.wn then 5 else s.ns K
def Km.nf (s : Km) : Nat := if s.fi < s.fs then 6 else 11
def sd0 (h e : Nat) : Sd := ⟨false, h, e, 0, 0, 0⟩
def Km.find (s : Km) (K : Cf) (x : Int) (t : Nat) : Km := if 0 ≤ x ∧ x < K.S then { s with fnd := x.toNat, sd := sd0 (K.hd x.toNat) s.e, th := t, pc := 15 } else { s with pc := t }

set_option maxHeartbeats 2000000 in
theorem kcl_as {w : World} {M G N P o : Nat} {X : List Nat} {T : Int} {c : Array Value} {t : TypeId} {K : Cf} {s : Km} (is : InA w w M G N X T P c t) (hs : KmAt c o K s) (hl : s.who < 64) (a b : Nat) :
    Calls Tryz.prog 67 #[.pointer (some ⟨P, o, none⟩), .int .i64 (a : Nat), .int .i64 (b : Nat)] w fun r w' => r = .returned (.int .i64 ((s.cl K a b).1 : Nat)) ∧ ∃ c', InA w w' M G N X T P c' t ∧ KmAt c' o K (s.cl K a b).2 ∧ Same c c' o (o + 91) := by
  have n1 := hs.put_who (s.who + 1)
  have n2 := n1.put_who 0
  have l9 := is.cell hs.who
  have f9 := is.free (o + 10)
  have e1 : IntKind.i64.wrap ((s.who : Int) + 1) = ((s.who + 1 : Nat) : Int) := by rw [IntKind.wrap_i64]; omega
  replace is := is.set (o + 10) (.int .i64 ((s.who + 1 : Nat) : Int))
  have s1 : Same c (c.setIfInBounds (o + 10) (.int .i64 ((s.who + 1 : Nat) : Int))) o (o + 91) := Same.set _ _ (by omega)
  have hz : ∀ wr c', InA w wr M G N X T P c' t → KmAt c' o K { s with who := s.who + 1 } → wr.cell? ⟨P, o + 10, none⟩ = some (.int .i64 ((s.who + 1 : Nat) : Int)) ∧ wr.cell? ⟨P, o + 2 + 2, none⟩ = some (.int .i64 (K.C : Nat)) ∧ wr.frozen? ⟨P, o + 10, none⟩ = false := fun wr c' x y => ⟨x.cell y.who, x.cell y.k2, x.free _⟩
  clear hs
  by_cases hc : s.who + 1 < K.C
  · have e : s.cl K a b = (a, { s with who := s.who + 1 }) := by unfold Km.cl; rw [if_pos hc]
    rw [e]
    have hc1 : ((s.who + 1 : Nat) : Int) < (K.C : Int) := by omega
    have hc2 : decide (((s.who + 1 : Nat) : Int) < (K.C : Int)) = true := decide_eq_true hc1
    clear e hc hl n2
    generalize hw1 : ({ s with who := s.who + 1 } : Km) = s' at *
    clear hw1
    generalize s.who + 1 = s1' at *
    go_enter Tryz.func67, Tryz.ntmps67
    go_upto_region 2 with fail
    clear l9 f9 e1
    generalize w.setCell ⟨P, o + 10, none⟩ (.int .i64 (s1' : Nat)) = w2 at *
    obtain ⟨q1, q2, _⟩ := hz _ _ is n1
    clear hz
    go_quiet (fail)
    replace is := is.below (below_drewN (Below.refl _ w2) nq)
    clear q1 q2
    generalize w2.drewN nq = w4 at *
    go_wp2
    go_ret
    exact ⟨rfl, _, is, n1, s1⟩
  · have e : s.cl K a b = (b, { s with who := 0 }) := by unfold Km.cl; rw [if_neg hc]
    rw [e]
    have hc1 : ¬ ((s.who + 1 : Nat) : Int) < (K.C : Int) := by omega
    have hc2 : decide (((s.who + 1 : Nat) : Int) < (K.C : Int)) = false := decide_eq_false hc1
    clear e hc hl
    simp only at n2
    generalize hw1 : ({ s with who := s.who + 1 } : Km) = s' at *
    generalize hw2 : ({ s with who := 0 } : Km) = s'' at *
    clear hw1 hw2
    generalize s.who + 1 = s1' at *
    go_enter Tryz.func67, Tryz.ntmps67
    go_upto_region 2 with fail
    clear l9 f9 e1
    generalize w.setCell ⟨P, o + 10, none⟩ (.int .i64 (s1' : Nat)) = w2 at *
    obtain ⟨q1, q2, _⟩ := hz _ _ is n1
    go_quiet (fail)
    replace is := is.below (below_drewN (Below.refl _ w2) nq)
    clear q1 q2
    generalize w2.drewN nq = w4 at *
    obtain ⟨l8, _, f8⟩ := hz _ _ is n1
    clear hz
    replace is := is.set (o + 10) (.int .i64 0)
    go_wp2
    go_ret
    exact ⟨rfl, _, is, n2, s1.trans (Same.set _ _ (by omega))⟩

set_option maxHeartbeats 1000000 in
theorem kns_as {w : World} {M G N P o : Nat} {X : List Nat} {T : Int} {c : Array Value} {t : TypeId} {K : Cf} {s : Km} (is : InA w w M G N X T P c t) (hs : KmAt c o K s) :
    Calls Tryz.prog 103 #[.pointer (some ⟨P, o, none⟩)] w fun r w' => r = .returned (.int .i64 (s.ns K : Nat)) ∧ InA w w' M G N X T P c t := by
  have l1 := is.cell hs.nx
  have l2 := is.cell hs.k0
  clear hs
  by_cases hc : s.nx < K.S
  · have e : s.ns K = 4 := by unfold Km.ns; rw [if_pos hc]
    rw [e]
    have hc1 : (s.nx : Int) < (K.S : Int) := by omega
    have hc2 : decide ((s.nx : Int) < (K.S : Int)) = true := decide_eq_true hc1
    clear e hc
    go_enter Tryz.func103, Tryz.ntmps103
    go_upto_region 1 with fail
    go_quiet (fail)
    replace is := is.below (below_drewN (Below.refl _ w) nq)
    go_wp2
    go_ret
    exact ⟨rfl, is⟩
  · have e : s.ns K = 14 := by unfold Km.ns; rw [if_neg hc]
    rw [e]
    have hc1 : ¬ (s.nx : Int) < (K.S : Int) := by omega
    have hc2 : decide ((s.nx : Int) < (K.S : Int)) = false := decide_eq_false hc1
    clear e hc
    go_enter Tryz.func103, Tryz.ntmps103
    go_upto_region 1 with fail
    go_quiet (fail)
    replace is := is.below (below_drewN (Below.refl _ w) nq)
    go_wp2
    go_ret
    exact ⟨rfl, is⟩

set_option maxHeartbeats 1000000 in
theorem knf_as {w : World} {M G N P o : Nat} {X : List Nat} {T : Int} {c : Array Value} {t : TypeId} {K : Cf} {s : Km} (is : InA w w M G N X T P c t) (hs : KmAt c o K s) :
    Calls Tryz.prog 90 #[.pointer (some ⟨P, o, none⟩)] w fun r w' => r = .returned (.int .i64 (s.nf : Nat)) ∧ InA w w' M G N X T P c t := by
  have l1 := is.cell hs.fi
  have l2 := is.cell hs.fs
  clear hs
  by_cases hc : s.fi < s.fs
  · have e : s.nf = 6 := by unfold Km.nf; rw [if_pos hc]
    rw [e]
    have hc1 : (s.fi : Int) < (s.fs : Int) := by omega
    have hc2 : decide ((s.fi : Int) < (s.fs : Int)) = true := decide_eq_true hc1
    clear e hc
    go_enter Tryz.func90, Tryz.ntmps90
    go_upto_region 1 with fail
    go_quiet (fail)
    replace is := is.below (below_drewN (Below.refl _ w) nq)
    go_wp2
    go_ret
    exact ⟨rfl, is⟩
  · have e : s.nf = 11 := by unfold Km.nf; rw [if_neg hc]
    rw [e]
    have hc1 : ¬ (s.fi : Int) < (s.fs : Int) := by omega
    have hc2 : decide ((s.fi : Int) < (s.fs : Int)) = false := decide_eq_false hc1
    clear e hc
    go_enter Tryz.func90, Tryz.ntmps90
    go_upto_region 1 with fail
    go_quiet (fail)
    replace is := is.below (below_drewN (Below.refl _ w) nq)
    go_wp2
    go_ret
    exact ⟨rfl, is⟩

set_option maxHeartbeats 1000000 in
theorem knw_as {w : World} {M G N P o : Nat} {X : List Nat} {T : Int} {c : Array Value} {t : TypeId} {K : Cf} {s : Km} (is : InA w w M G N X T P c t) (hs : KmAt c o K s) :
    Calls Tryz.prog 95 #[.pointer (some ⟨P, o, none⟩)] w fun r w' => r = .returned (.int .i64 (s.nw K : Nat)) ∧ InA w w' M G N X T P c t := by
  have l1 := is.cell hs.wn
  have c0 := kns_as is hs
  clear hs
  by_cases hc : 0 < s.wn
  · have e : s.nw K = 5 := by unfold Km.nw; rw [if_pos hc]
    rw [e]
    have hc1 : (0 : Int) < (s.wn : Int) := by omega
    clear e hc
    go_enter Tryz.func95, Tryz.ntmps95
    go_wp2
    go_ret
    exact ⟨rfl, is⟩
  · have e : s.nw K = s.ns K := by unfold Km.nw; rw [if_neg hc]
    rw [e]
    have hc1 : ¬ (0 : Int) < (s.wn : Int) := by omega
    clear e hc
    go_enter Tryz.func95, Tryz.ntmps95
    go_wp2_with (go_at_call 103; with_reducible refine c0.mono ?_; rintro e w3 ⟨rfl, i1⟩)
    go_ret
    exact ⟨rfl, i1⟩

set_option maxHeartbeats 1000000 in
theorem newShade_no {s a c d g k : Int} (i : Int) (e : Nat) (hr : (rightB s a c d g k && be i s) = false) (w : World) :
    Calls Tryz.prog 85 #[.agg (cs s a c d g k), .int .i64 i, .int .u64 (e : Nat)] w fun e w' => e = .returned (.pointer none) ∧ Below w.heap.size w w' := by
  have bel := alloc_below w (.cells #[.int .i64 s, .int .i64 a, .int .i64 c, .int .i64 d, .int .i64 g, .int .i64 k] 23)
  have c1 := header_no i hr
  clear hr
  go_enter Tryz.func85, Tryz.ntmps85
  go_wp2_with (go_at_call 19; refine (c1 _).mono ?_; rintro e w1 ⟨rfl, b⟩; replace bel := seq_below bel b)
  go_ret
  exact ⟨rfl, bel⟩

set_option maxHeartbeats 1000000 in
theorem newShade_yes {K : Cf} (hK : K.Ok) (i : Nat) (hi : i < K.S) (e : Nat) (w : World) :
    Calls Tryz.prog 85 #[.agg K.cs, .int .i64 (i : Nat), .int .u64 (e : Nat)] w fun r w' => ∃ P, r = .returned (.pointer (some ⟨P, 0, none⟩)) ∧ NewBlk w w' P #[.bool false, .int .i64 (K.hd i : Nat), .int .u64 (e : Nat), .int .i64 0, .int .u64 0, .int .u64 0] 79 := by
  have c1 := fun w => header_at hK hi rfl w
  unfold Cf.cs at *
  have hl : (0 : Int) ≤ ((K.hd i : Nat) : Int) := by omega
  generalize ((K.hd i : Nat) : Int) = L at *
  generalize (K.S : Int) = s at *
  generalize K.a = a at *
  generalize (K.C : Int) = c at *
  generalize (K.D : Int) = d at *
  generalize K.g = g at *
  generalize K.k = k at *
  generalize (i : Int) = j at *
  clear hK hi
  have bel := alloc_below w (.cells #[.int .i64 s, .int .i64 a, .int .i64 c, .int .i64 d, .int .i64 g, .int .i64 k] 23)
  go_enter Tryz.func85, Tryz.ntmps85
  go_wp2_with (go_at_call 19; refine (c1 _).mono ?_; rintro e w1 ⟨rfl, b⟩; replace bel := seq_below bel b)
  go_ret
  exact ⟨_, rfl, ⟨new_obj _ _, bel.size, bel.alloc bel.size _⟩⟩
end Go.Proofs.YtcioomopgdhlmaaGreatDoor
