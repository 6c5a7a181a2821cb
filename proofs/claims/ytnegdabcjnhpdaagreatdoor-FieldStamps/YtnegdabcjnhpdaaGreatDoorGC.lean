/- Contracts of package field's Lay: comparing, finding the newest, stamping the fresh record. -/
import Derived.Test.YtnegdabcjnhpdaaGreatDoorGB
import Derived.Test.YtnegdabcjnhpdaaGreatDoorHhTBase
namespace Go.Proofs.YtnegdabcjnhpdaaGreatDoor
open Go.RowKit
open Mm (IsMem MS touched Only)
open Hh (WT)

/-- A Shade of a Lay: its block, and what it holds. -/
structure Sd where
  Q : Nat
  gw : Bool
  hd : Nat
  pc : Int
  was : Nat
  nw : Nat
structure La where
  laid : Bool
  point : Int
  n : Nw
  fresh : Nat
  expect : Int
  e : Nat
  sh : Option Sd
  pc : Int
structure LaAt (c : Array Value) (B : Nat) (K : Cf) (r : La) : Prop where
  laid : c[0]? = some (.bool r.laid)
  point : c[1]? = some (.int .i64 r.point)
  n : NwAt c 2 B K r.n
  fresh : c[20]? = some (.int .i64 (r.fresh : Nat))
  expect : c[21]? = some (.int .i64 r.expect)
  e : c[22]? = some (.int .u64 (r.e : Nat))
  sh : c[23]? = some (.pointer (r.sh.map fun s => ⟨s.Q, 0, none⟩))
  pc : c[24]? = some (.int .i64 r.pc)
theorem LaAt.find {c c' : Array Value} {B : Nat} {K : Cf} {r : La} {n' : Nw} (h : LaAt c B K r) (hn : NwAt c' 2 B K n') (hs : Same c c' (2 + 8) (2 + 17)) : LaAt c' B K { r with n := n' } :=
  ⟨by rw [hs.out _ (by omega)]; exact h.laid, by rw [hs.out _ (by omega)]; exact h.point, hn, by rw [hs.out _ (by omega)]; exact h.fresh, by rw [hs.out _ (by omega)]; exact h.expect, by rw [hs.out _ (by omega)]; exact h.e, by rw [hs.out _ (by omega)]; exact h.sh, by rw [hs.out _ (by omega)]; exact h.pc⟩
theorem LaAt.setpc {c : Array Value} {B : Nat} {K : Cf} {r : La} (h : LaAt c B K r) (v : Int) : LaAt (c.setIfInBounds 24 (.int .i64 v)) B K { r with pc := v } :=
  ⟨by rw [get_set_ne (by omega)]; exact h.laid, by rw [get_set_ne (by omega)]; exact h.point, h.n.same fun i h1 h2 => by rw [get_set_ne (by omega)], by rw [get_set_ne (by omega)]; exact h.fresh, by rw [get_set_ne (by omega)]; exact h.expect, by rw [get_set_ne (by omega)]; exact h.e, by rw [get_set_ne (by omega)]; exact h.sh, get_set (Array.getElem?_eq_some_iff.1 h.pc).1⟩
theorem LaAt.setpoint {c : Array Value} {B : Nat} {K : Cf} {r : La} (h : LaAt c B K r) (v : Int) : LaAt (c.setIfInBounds 1 (.int .i64 v)) B K { r with point := v } :=
  ⟨by rw [get_set_ne (by omega)]; exact h.laid, get_set (Array.getElem?_eq_some_iff.1 h.point).1, h.n.same fun i h1 h2 => by rw [get_set_ne (by omega)], by rw [get_set_ne (by omega)]; exact h.fresh, by rw [get_set_ne (by omega)]; exact h.expect, by rw [get_set_ne (by omega)]; exact h.e, by rw [get_set_ne (by omega)]; exact h.sh, by rw [get_set_ne (by omega)]; exact h.pc⟩
theorem LaAt.setlaid {c : Array Value} {B : Nat} {K : Cf} {r : La} (h : LaAt c B K r) (v : Bool) : LaAt (c.setIfInBounds 0 (.bool v)) B K { r with laid := v } :=
  ⟨get_set (Array.getElem?_eq_some_iff.1 h.laid).1, by rw [get_set_ne (by omega)]; exact h.point, h.n.same fun i h1 h2 => by rw [get_set_ne (by omega)], by rw [get_set_ne (by omega)]; exact h.fresh, by rw [get_set_ne (by omega)]; exact h.expect, by rw [get_set_ne (by omega)]; exact h.e, by rw [get_set_ne (by omega)]; exact h.sh, by rw [get_set_ne (by omega)]; exact h.pc⟩
theorem LaAt.setsh {c : Array Value} {B : Nat} {K : Cf} {r : La} (h : LaAt c B K r) (s : Sd) : LaAt (c.setIfInBounds 23 (.pointer (some ⟨s.Q, 0, none⟩))) B K { r with sh := some s } :=
  ⟨by rw [get_set_ne (by omega)]; exact h.laid, by rw [get_set_ne (by omega)]; exact h.point, h.n.same fun i h1 h2 => by rw [get_set_ne (by omega)], by rw [get_set_ne (by omega)]; exact h.fresh, by rw [get_set_ne (by omega)]; exact h.expect, by rw [get_set_ne (by omega)]; exact h.e, get_set (Array.getElem?_eq_some_iff.1 h.sh).1, by rw [get_set_ne (by omega)]; exact h.pc⟩

/-- The field's value is held against what is expected. -/
def La.comp (r : La) (g : Gs) (z : Int) : La := if z = r.expect then { r with pc := 2 } else { r with point := ptOf r.n.since (g.k.born r.n.rc), pc := 6 }
set_option maxHeartbeats 1000000 in
theorem compare_any {w : World} {lo M G B P : Nat} {g : Gs} {c : Array Value} {t : TypeId} {K : Cf} {r : La} (is : InF w w lo M G B K.N g P c t) (hr : LaAt c B K r) (hw : (Lit.int .i64 r.n.rc).wf = true) (z : Int) :
    Calls Tryz.prog 56 #[.pointer (some ⟨P, 0, none⟩), .int .i64 z] w fun e w' => e = .returned (.tuple #[]) ∧ ∃ c', InF w w' lo M G B K.N g P c' t ∧ LaAt c' B K (r.comp g z) := by
  have l24 := is.cell hr.pc
  have f24 := is.free 24
  have i1 := is.set 24 (.int .i64 2)
  have r1 := hr.setpc 2
  by_cases h : z = r.expect
  · have e : r.comp g z = { r with pc := 2 } := by unfold La.comp; rw [if_pos h]
    rw [e]
    go_enter Tryz.func56, Tryz.ntmps56
    go_upto_region 1 with fail
    clear l24 f24 is hr e
    generalize w.setCell ⟨P, 24, none⟩ (.int .i64 2) = w1 at *
    have l21 := i1.cell r1.expect
    simp only [← h] at l21
    go_wp2
    go_end0
    exact ⟨rfl, _, i1, r1⟩
  · have e : r.comp g z = { r with point := ptOf r.n.since (g.k.born r.n.rc), pc := 6 } := by unfold La.comp; rw [if_neg h]
    rw [e]
    obtain ⟨p, hp⟩ : ∃ p, ptOf r.n.since (g.k.born r.n.rc) = p := ⟨_, rfl⟩
    rw [hp]
    have hne : (z == r.expect) = false := by simpa using h
    go_enter Tryz.func56, Tryz.ntmps56
    go_upto_region 1 with fail
    clear l24 f24 is hr e
    generalize w.setCell ⟨P, 24, none⟩ (.int .i64 2) = w1 at *
    generalize c.setIfInBounds 24 (.int .i64 2) = c1 at *
    have l21 := i1.cell r1.expect
    simp only at l21
    have cp := npoint_any i1.restart r1.n hw
    simp only [hp] at cp
    clear hp
    go_upto_region 3 with (go_at_call 70; refine cp.mono ?_; rintro e w2 ⟨rfl, b⟩; replace i1 := i1.below b; have l1 := i1.cell r1.point; have f1 := i1.free 1)
    have i2 := i1.set 1 (.int .i64 p)
    have r2 := r1.setpoint p
    clear l1 f1 i1 r1 cp l21 b
    generalize w2.setCell ⟨P, 1, none⟩ (.int .i64 p) = w3 at *
    have l24 := i2.cell r2.pc
    have f24 := i2.free 24
    have i3 := i2.set 24 (.int .i64 6)
    have r3 := r2.setpc 6
    go_wp2
    go_end0
    exact ⟨rfl, _, i3, r3⟩

def La.found (r : La) (g : Gs) : La := if r.expect < -1 then { r with pc := 2 } else if r.n.rc = -1 then r.comp g (-1) else { r with pc := 1 }
set_option maxHeartbeats 1000000 in
theorem findNewest_any {w : World} {lo M G B P : Nat} {g : Gs} {c : Array Value} {t : TypeId} {K : Cf} {r : La} (hK : K.Ok) (hB : 3 ≤ K.B) (is : InF w w lo M G B K.N g P c t) (hr : LaAt c B K r) (hk : r.n.Fit K B) (hT : g.T + 1 < 4611686018427387904) :
    Calls Tryz.prog 55 #[.pointer (some ⟨P, 0, none⟩), .pointer (some ⟨M, 0, none⟩)] w fun e w' => e = .returned (.tuple #[]) ∧ ∃ c', InF w w' lo M G B K.N (r.n.find K B g).2 P c' t ∧ LaAt c' B K (if (r.n.find K B g).1.on = true then { r with n := (r.n.find K B g).1 } else La.found { r with n := (r.n.find K B g).1 } (r.n.find K B g).2) := by
  have cf := find_any hK hB is hr.n hk.ok hT
  have hf := Nw.find_fit hK hB hk (g := g) (is.gw.mem.fits 0) is.gw.now
  obtain ⟨n', g', hnf⟩ : ∃ n' g', r.n.find K B g = (n', g') := ⟨_, _, rfl⟩
  rw [hnf] at cf hf ⊢
  simp only at cf hf ⊢
  have hrw : (Lit.int .i64 n'.rc).wf = true := wf64 (by have := hf.rc; have := hK.s64; omega)
  clear hnf
  cases hon : n'.on
  · rw [hon] at cf
    simp only [Bool.not_false] at cf
    simp only [Bool.false_eq_true, if_false]
    by_cases hx : r.expect < -1
    · have e : La.found { r with n := n' } g' = { r with n := n', pc := 2 } := by unfold La.found; rw [if_pos hx]
      rw [e]
      go_enter Tryz.func55, Tryz.ntmps55
      go_upto_region 3 with (go_at_call 69; refine cf.mono ?_; rintro e w1 ⟨rfl, c1, i1, h1, s1⟩; have r1 := hr.find h1 s1; have l21 := i1.cell r1.expect)
      have l24 := i1.cell r1.pc
      have f24 := i1.free 24
      have i2 := i1.set 24 (.int .i64 2)
      have r2 := r1.setpc 2
      go_wp2
      go_end0
      exact ⟨rfl, _, i2, r2⟩
    · by_cases hrc : n'.rc = -1
      · have e : La.found { r with n := n' } g' = La.comp { r with n := n' } g' (-1) := by unfold La.found; rw [if_neg hx, if_pos hrc]
        rw [e]
        have cc : ∀ wr c1, InF w wr lo M G B K.N g' P c1 t → LaAt c1 B K { r with n := n' } → Calls Tryz.prog 56 #[.pointer (some ⟨P, 0, none⟩), .int .i64 (-1)] wr fun e w' => e = .returned (.tuple #[]) ∧ ∃ c', InF w w' lo M G B K.N g' P c' t ∧ LaAt c' B K (La.comp { r with n := n' } g' (-1)) := fun wr c1 x hx => (compare_any x.restart hx hrw (-1)).mono fun e w' ⟨h1, c', h2, h3⟩ => ⟨h1, c', x.join h2, h3⟩
        generalize La.comp { r with n := n' } g' (-1) = rg at *
        clear e
        go_enter Tryz.func55, Tryz.ntmps55
        go_wp2_with (first
          | (go_at_call 69; refine cf.mono ?_; rintro e w1 ⟨rfl, c1, i1, h1, s1⟩; have r1 := hr.find h1 s1; have l21 := i1.cell r1.expect; have l12 := i1.cell r1.n.rc; simp only [hrc] at l12)
          | (go_at_call 56; refine (cc _ _ i1 r1).mono ?_; rintro e w2 ⟨rfl, c2, i2, r2⟩))
        go_end0
        exact ⟨rfl, c2, i2, r2⟩
      · have e : La.found { r with n := n' } g' = { r with n := n', pc := 1 } := by unfold La.found; rw [if_neg hx, if_neg hrc]
        rw [e]
        have hne : (n'.rc == -1) = false := by simpa using hrc
        go_enter Tryz.func55, Tryz.ntmps55
        go_upto_region 1 with (go_at_call 69; refine cf.mono ?_; rintro e w1 ⟨rfl, c1, i1, h1, s1⟩; have r1 := hr.find h1 s1; have l21 := i1.cell r1.expect; have l12 := i1.cell r1.n.rc)
        have l24 := i1.cell r1.pc
        have f24 := i1.free 24
        have i2 := i1.set 24 (.int .i64 1)
        have r2 := r1.setpc 1
        go_wp2
        go_end0
        exact ⟨rfl, _, i2, r2⟩
  · rw [hon] at cf
    simp only [Bool.not_true] at cf
    rw [if_pos rfl]
    go_enter Tryz.func55, Tryz.ntmps55
    go_wp2_with (go_at_call 69; refine cf.mono ?_; rintro e w1 ⟨rfl, c1, i1, h1, s1⟩; have r1 := hr.find h1 s1)
    refine bodyPost_ret (results_none rfl _ _ _) rfl ?_
    exact ⟨rfl, c1, i1, r1⟩
end Go.Proofs.YtnegdabcjnhpdaaGreatDoor
/- Contracts of package field's Lay: the swap, and stamping the fresh record. -/
namespace Go.Proofs.YtnegdabcjnhpdaaGreatDoor
open Go.RowKit
open Mm (IsMem MS touched Only)
open Hh (WT)

theorem naming_any (z : Int) (h : -1 ≤ z ∧ z < 4611686018427387904) {n : Nat} (hn : z + 1 = (n : Int)) (w : World) : Calls Tryz.prog 75 #[.int .i64 z] w fun e w' => e = .returned (.int .u64 (n : Nat)) ∧ w = w' := by
  have h1 : IntKind.i64.wrap (z + 1) = (n : Int) := by rw [IntKind.wrap_i64]; omega
  have h2 : IntKind.u64.wrap (n : Int) = (n : Int) := by rw [IntKind.wrap_u64]; omega
  clear hn
  go_enter Tryz.func75, Tryz.ntmps75
  go_wp2
  go_ret
  exact ⟨rfl, rfl⟩

theorem LaAt.six {c : Array Value} {B : Nat} {K : Cf} {r : La} (h : LaAt c B K r) (s : Sm) (h0 : s.pc = 0) (h1 : s.clock = 0) (h2 : s.point = 0) : LaAt ((((((c.setIfInBounds 13 (.pointer (some ⟨B, 0, none⟩))).setIfInBounds 14 (.int .i64 s.rc)).setIfInBounds 15 (.int .i64 (s.place : Nat))).setIfInBounds 16 (.int .i64 0)).setIfInBounds 17 (.int .u64 0)).setIfInBounds 18 (.int .i64 0)) B K { r with n := { r.n with sb := some ⟨B, 0, none⟩, s := s } } := by
  have hz := h.n.size
  have s6 : Same c ((((((c.setIfInBounds 13 (.pointer (some ⟨B, 0, none⟩))).setIfInBounds 14 (.int .i64 s.rc)).setIfInBounds 15 (.int .i64 (s.place : Nat))).setIfInBounds 16 (.int .i64 0)).setIfInBounds 17 (.int .u64 0)).setIfInBounds 18 (.int .i64 0)) 13 18 := (((((Same.set c _ (by omega)).trans (Same.set _ _ (by omega))).trans (Same.set _ _ (by omega))).trans (Same.set _ _ (by omega))).trans (Same.set _ _ (by omega))).trans (Same.set _ _ (by omega))
  have q13 : ((((((c.setIfInBounds 13 (.pointer (some ⟨B, 0, none⟩))).setIfInBounds 14 (.int .i64 s.rc)).setIfInBounds 15 (.int .i64 (s.place : Nat))).setIfInBounds 16 (.int .i64 0)).setIfInBounds 17 (.int .u64 0)).setIfInBounds 18 (.int .i64 0))[13]? = some (.pointer (some ⟨B, 0, none⟩)) := by rw [get_set_ne (by omega), get_set_ne (by omega), get_set_ne (by omega), get_set_ne (by omega), get_set_ne (by omega), get_set (by omega)]
  have q14 : ((((((c.setIfInBounds 13 (.pointer (some ⟨B, 0, none⟩))).setIfInBounds 14 (.int .i64 s.rc)).setIfInBounds 15 (.int .i64 (s.place : Nat))).setIfInBounds 16 (.int .i64 0)).setIfInBounds 17 (.int .u64 0)).setIfInBounds 18 (.int .i64 0))[14]? = some (.int .i64 s.rc) := by rw [get_set_ne (by omega), get_set_ne (by omega), get_set_ne (by omega), get_set_ne (by omega), get_set (by simp; omega)]
  have q15 : ((((((c.setIfInBounds 13 (.pointer (some ⟨B, 0, none⟩))).setIfInBounds 14 (.int .i64 s.rc)).setIfInBounds 15 (.int .i64 (s.place : Nat))).setIfInBounds 16 (.int .i64 0)).setIfInBounds 17 (.int .u64 0)).setIfInBounds 18 (.int .i64 0))[15]? = some (.int .i64 (s.place : Nat)) := by rw [get_set_ne (by omega), get_set_ne (by omega), get_set_ne (by omega), get_set (by simp; omega)]
  have q16 : ((((((c.setIfInBounds 13 (.pointer (some ⟨B, 0, none⟩))).setIfInBounds 14 (.int .i64 s.rc)).setIfInBounds 15 (.int .i64 (s.place : Nat))).setIfInBounds 16 (.int .i64 0)).setIfInBounds 17 (.int .u64 0)).setIfInBounds 18 (.int .i64 0))[16]? = some (.int .i64 0) := by rw [get_set_ne (by omega), get_set_ne (by omega), get_set (by simp; omega)]
  have q17 : ((((((c.setIfInBounds 13 (.pointer (some ⟨B, 0, none⟩))).setIfInBounds 14 (.int .i64 s.rc)).setIfInBounds 15 (.int .i64 (s.place : Nat))).setIfInBounds 16 (.int .i64 0)).setIfInBounds 17 (.int .u64 0)).setIfInBounds 18 (.int .i64 0))[17]? = some (.int .u64 0) := by rw [get_set_ne (by omega), get_set (by simp; omega)]
  have q18 : ((((((c.setIfInBounds 13 (.pointer (some ⟨B, 0, none⟩))).setIfInBounds 14 (.int .i64 s.rc)).setIfInBounds 15 (.int .i64 (s.place : Nat))).setIfInBounds 16 (.int .i64 0)).setIfInBounds 17 (.int .u64 0)).setIfInBounds 18 (.int .i64 0))[18]? = some (.int .i64 0) := by rw [get_set (by simp; omega)]
  generalize ((((((c.setIfInBounds 13 (.pointer (some ⟨B, 0, none⟩))).setIfInBounds 14 (.int .i64 s.rc)).setIfInBounds 15 (.int .i64 (s.place : Nat))).setIfInBounds 16 (.int .i64 0)).setIfInBounds 17 (.int .u64 0)).setIfInBounds 18 (.int .i64 0)) = c6 at *
  exact ⟨by rw [s6.out _ (by omega)]; exact h.laid, by rw [s6.out _ (by omega)]; exact h.point, ⟨by rw [s6.out _ (by omega)]; exact h.n.k0, by rw [s6.out _ (by omega)]; exact h.n.k1, by rw [s6.out _ (by omega)]; exact h.n.k2, by rw [s6.out _ (by omega)]; exact h.n.k3, by rw [s6.out _ (by omega)]; exact h.n.k4, by rw [s6.out _ (by omega)]; exact h.n.k5, by rw [s6.out _ (by omega)]; exact h.n.b, by rw [s6.out _ (by omega)]; exact h.n.field, by rw [s6.out _ (by omega)]; exact h.n.word, by rw [s6.out _ (by omega)]; exact h.n.since, by rw [s6.out _ (by omega)]; exact h.n.rc, q13, q14, q15, by show c6[16]? = _; rw [q16, h0], by show c6[17]? = _; rw [q17, h1]; rfl, by show c6[18]? = _; rw [q18, h2], by rw [s6.out _ (by omega)]; exact h.n.on⟩, by rw [s6.out _ (by omega)]; exact h.fresh, by rw [s6.out _ (by omega)]; exact h.expect, by rw [s6.out _ (by omega)]; exact h.e, by rw [s6.out _ (by omega)]; exact h.sh, by rw [s6.out _ (by omega)]; exact h.pc⟩
theorem LaAt.cfg {w wr : World} {lo M G B N P : Nat} {g : Gs} {c : Array Value} {t : TypeId} {K : Cf} {r : La} (h : LaAt c B K r) (is : InF w wr lo M G B N g P c t) : wr.cell? ⟨P, 2, none⟩ = some (.int .i64 (K.S : Nat)) ∧ wr.cell? ⟨P, 3, none⟩ = some (.int .i64 K.a) ∧ wr.cell? ⟨P, 4, none⟩ = some (.int .i64 (K.C : Nat)) ∧ wr.cell? ⟨P, 5, none⟩ = some (.int .i64 (K.D : Nat)) ∧ wr.cell? ⟨P, 6, none⟩ = some (.int .i64 K.g) ∧ wr.cell? ⟨P, 7, none⟩ = some (.int .i64 K.k) :=
  ⟨is.cell h.n.k0, is.cell h.n.k1, is.cell h.n.k2, is.cell h.n.k3, is.cell h.n.k4, is.cell h.n.k5⟩

/-- The swap at the field. -/
def La.swap (r : La) (K : Cf) (B : Nat) (g : Gs) : La × Gs :=
  if g.X.getD r.n.field 0 = r.n.word then ({ r with pc := 5, n := { r.n with sb := some ⟨B, 0, none⟩, s := ⟨r.fresh, K.bd r.fresh 1, 0, 0, 0⟩ } }, { g with X := g.X.set r.n.field (r.fresh + 1), T := g.T + 1 })
  else ({ r with pc := 0 }, { g with T := g.T + 1 })
set_option maxHeartbeats 4000000 in
theorem swapField_any {w : World} {lo M G B P : Nat} {g : Gs} {c : Array Value} {t : TypeId} {K : Cf} {r : La} (hK : K.Ok) (hB : 3 ≤ K.B) (is : InF w w lo M G B K.N g P c t) (hr : LaAt c B K r) (hfi : r.n.field < K.N) (hfr : r.fresh < K.S) (hT : g.T + 1 < 4611686018427387904) :
    Calls Tryz.prog 59 #[.pointer (some ⟨P, 0, none⟩), .pointer (some ⟨M, 0, none⟩)] w fun e w' => e = .returned (.tuple #[]) ∧ ∃ c', InF w w' lo M G B K.N (r.swap K B g).2 P c' t ∧ LaAt c' B K (r.swap K B g).1 := by
  have hl : r.n.field < g.X.length := by rw [is.gw.len]; exact hfi
  have hlen := is.gw.len
  have htb := is.gw.tb
  have hS := hK.s64
  have cnm := naming_any (r.fresh : Int) (by omega) (n := r.fresh + 1) (by omega)
  have cb := fun w => body_at hK hfr (i := 1) (by omega) rfl (u := 1) rfl w
  have l24 := is.cell hr.pc
  have f24 := is.free 24
  have i1 := is.set 24 (.int .i64 0)
  have r1 := hr.setpc 0
  by_cases hv : g.X.getD r.n.field 0 = r.n.word
  · have hsw : r.swap K B g = ({ r with pc := 5, n := { r.n with sb := some ⟨B, 0, none⟩, s := ⟨r.fresh, K.bd r.fresh 1, 0, 0, 0⟩ } }, { g with X := g.X.set r.n.field (r.fresh + 1), T := g.T + 1 }) := by unfold La.swap; rw [if_pos hv]
    rw [hsw]
    have c0 : ∀ wr, InF w wr lo M G B K.N g P (c.setIfInBounds 24 (.int .i64 0)) t → Calls Tryz.prog 41 #[.pointer (some ⟨M, 0, none⟩), .int .i64 (r.n.field : Nat), .int .u64 (r.n.word : Nat), .int .u64 ((r.fresh + 1 : Nat) : Int)] wr fun e w' => e = .returned (.bool true) ∧ InF w w' lo M G B K.N { g with X := g.X.set r.n.field (r.fresh + 1), T := g.T + 1 } P (c.setIfInBounds 24 (.int .i64 0)) t := fun wr x => by
      have := swapX_yes x.gw.mem hl (v := r.fresh + 1) (by omega) hv htb
      refine this.mono ?_
      rintro e w1 ⟨rfl, hm, ho⟩
      exact ⟨rfl, x.only hm ho (by rw [List.length_set]; exact hlen) (by omega) hT⟩
    clear hsw hv hl hlen
    obtain ⟨g', hg'⟩ : ∃ g' : Gs, { g with X := g.X.set r.n.field (r.fresh + 1), T := g.T + 1 } = g' := ⟨_, rfl⟩
    simp only [hg'] at c0 ⊢
    clear hg'
    unfold Cf.cs at cb
    have cs := stampOf_as (some ⟨B, 0, none⟩) cb
    clear cb
    have q9 := r1.n.field
    have q10 := r1.n.word
    have q20 := r1.fresh
    have qb := r1.n.b
    simp only at q9 q10 q20
    have HPL : Hid (((K.bd r.fresh 1 : Nat) : Int) = ((K.bd r.fresh 1 : Nat) : Int)) := rfl
    generalize (r.n.field : Int) = fi at *
    generalize (r.n.word : Int) = wo at *
    generalize ((r.fresh + 1 : Nat) : Int) = fr1 at *
    obtain ⟨fr, hfrI⟩ : ∃ fr : Int, (r.fresh : Int) = fr := ⟨_, rfl⟩
    obtain ⟨pl, hpl⟩ : ∃ pl : Int, ((K.bd r.fresh 1 : Nat) : Int) = pl := ⟨_, rfl⟩
    have r6 := fun c (x : LaAt c B K { r with pc := 0 }) => x.six ⟨r.fresh, K.bd r.fresh 1, 0, 0, 0⟩ rfl rfl rfl
    simp only [hfrI, hpl] at cnm q20 cs r6
    have hfrH : Hid ((r.fresh : Int) = fr) := hfrI
    clear hfrI hpl HPL
    go_enter Tryz.func59, Tryz.ntmps59
    go_upto_region 1 with fail
    clear l24 f24 is hr
    generalize w.setCell ⟨P, 24, none⟩ (.int .i64 0) = w1 at *
    generalize c.setIfInBounds 24 (.int .i64 0) = c1 at *
    have hcs : ∀ wr g', InF w wr lo M G B K.N g' P c1 t → wr.cell? ⟨P, 9, none⟩ = some (.int .i64 fi) ∧ wr.cell? ⟨P, 10, none⟩ = some (.int .u64 wo) ∧ wr.cell? ⟨P, 20, none⟩ = some (.int .i64 fr) := fun wr g' x => ⟨x.cell q9, x.cell q10, x.cell q20⟩
    replace i1 := i1.drew
    go_region_held (fun wr => wr.cell? ⟨P, 9, none⟩ = some (.int .i64 fi) ∧ wr.cell? ⟨P, 10, none⟩ = some (.int .u64 wo) ∧ wr.cell? ⟨P, 20, none⟩ = some (.int .i64 fr)) (with_reducible exact hcs _ _ i1) (first
      | (go_at_call 75; with_reducible refine (cnm _).mono ?_; rintro e w1 ⟨rfl, rfl⟩)
      | (go_at_call 41; with_reducible refine (c0 _ i1).mono ?_; rintro e w2 ⟨rfl, i1⟩))
    rename_i hHeld
    clear hHeld hcs c0 cnm
    go_upto_region 2 with fail
    have k11 : ∀ wr, InF w wr lo M G B K.N g' P c1 t → (wr.cell? ⟨P, 13, none⟩ = some (.pointer r.n.sb) ∧ wr.cell? ⟨P, 14, none⟩ = some (.int .i64 r.n.s.rc) ∧ wr.cell? ⟨P, 15, none⟩ = some (.int .i64 (r.n.s.place : Nat)) ∧ wr.cell? ⟨P, 16, none⟩ = some (.int .i64 r.n.s.pc) ∧ wr.cell? ⟨P, 17, none⟩ = some (.int .u64 (r.n.s.clock : Nat)) ∧ wr.cell? ⟨P, 18, none⟩ = some (.int .i64 r.n.s.point)) := fun wr x => ⟨x.cell r1.n.sb, x.cell r1.n.src, x.cell r1.n.spl, x.cell r1.n.spc, x.cell r1.n.sck, x.cell r1.n.spt⟩
    have h6 : ∀ wr, InF w wr lo M G B K.N g' P c1 t → InF w ((((((wr.setCell ⟨P, 13, none⟩ (.pointer (some ⟨B, 0, none⟩))).setCell ⟨P, 14, none⟩ (.int .i64 fr)).setCell ⟨P, 15, none⟩ (.int .i64 pl)).setCell ⟨P, 16, none⟩ (.int .i64 0)).setCell ⟨P, 17, none⟩ (.int .u64 0)).setCell ⟨P, 18, none⟩ (.int .i64 0)) lo M G B K.N g' P ((((((c1.setIfInBounds 13 (.pointer (some ⟨B, 0, none⟩))).setIfInBounds 14 (.int .i64 fr)).setIfInBounds 15 (.int .i64 pl)).setIfInBounds 16 (.int .i64 0)).setIfInBounds 17 (.int .u64 0)).setIfInBounds 18 (.int .i64 0)) t := fun wr x => (((((x.set _ _).set _ _).set _ _).set _ _).set _ _).set _ _
    have hcf : ∀ wr g', InF w wr lo M G B K.N g' P c1 t → (wr.cell? ⟨P, 2, none⟩ = some (.int .i64 (K.S : Nat)) ∧ wr.cell? ⟨P, 3, none⟩ = some (.int .i64 K.a) ∧ wr.cell? ⟨P, 4, none⟩ = some (.int .i64 (K.C : Nat)) ∧ wr.cell? ⟨P, 5, none⟩ = some (.int .i64 (K.D : Nat)) ∧ wr.cell? ⟨P, 6, none⟩ = some (.int .i64 K.g) ∧ wr.cell? ⟨P, 7, none⟩ = some (.int .i64 K.k)) ∧ wr.cell? ⟨P, 8, none⟩ = some (.pointer (some ⟨B, 0, none⟩)) ∧ wr.cell? ⟨P, 20, none⟩ = some (.int .i64 fr) := fun wr g' x => ⟨r1.cfg x, x.cell qb, x.cell q20⟩
    have r7 := r6 c1 r1
    have q206 := r7.fresh
    simp only [hfrH.out] at q206
    have hcf6 : ∀ wr g', InF w wr lo M G B K.N g' P ((((((c1.setIfInBounds 13 (.pointer (some ⟨B, 0, none⟩))).setIfInBounds 14 (.int .i64 fr)).setIfInBounds 15 (.int .i64 pl)).setIfInBounds 16 (.int .i64 0)).setIfInBounds 17 (.int .u64 0)).setIfInBounds 18 (.int .i64 0)) t → (wr.cell? ⟨P, 2, none⟩ = some (.int .i64 (K.S : Nat)) ∧ wr.cell? ⟨P, 3, none⟩ = some (.int .i64 K.a) ∧ wr.cell? ⟨P, 4, none⟩ = some (.int .i64 (K.C : Nat)) ∧ wr.cell? ⟨P, 5, none⟩ = some (.int .i64 (K.D : Nat)) ∧ wr.cell? ⟨P, 6, none⟩ = some (.int .i64 K.g) ∧ wr.cell? ⟨P, 7, none⟩ = some (.int .i64 K.k)) ∧ wr.cell? ⟨P, 8, none⟩ = some (.pointer (some ⟨B, 0, none⟩)) ∧ wr.cell? ⟨P, 20, none⟩ = some (.int .i64 fr) := fun wr g' x => ⟨r7.cfg x, x.cell r7.n.b, x.cell q206⟩
    generalize ((((((c1.setIfInBounds 13 (.pointer (some ⟨B, 0, none⟩))).setIfInBounds 14 (.int .i64 fr)).setIfInBounds 15 (.int .i64 pl)).setIfInBounds 16 (.int .i64 0)).setIfInBounds 17 (.int .u64 0)).setIfInBounds 18 (.int .i64 0)) = c6 at *
    replace i1 := i1.drew
    obtain ⟨l11, l12, l13, l14, l15, l16⟩ := k11 _ i1
    have f11 := i1.free 13
    have f12 := i1.free 14
    have f13 := i1.free 15
    have f14 := i1.free 16
    have f15 := i1.free 17
    have f16 := i1.free 18
    go_region_held (fun wr => (wr.cell? ⟨P, 2, none⟩ = some (.int .i64 (K.S : Nat)) ∧ wr.cell? ⟨P, 3, none⟩ = some (.int .i64 K.a) ∧ wr.cell? ⟨P, 4, none⟩ = some (.int .i64 (K.C : Nat)) ∧ wr.cell? ⟨P, 5, none⟩ = some (.int .i64 (K.D : Nat)) ∧ wr.cell? ⟨P, 6, none⟩ = some (.int .i64 K.g) ∧ wr.cell? ⟨P, 7, none⟩ = some (.int .i64 K.k)) ∧ wr.cell? ⟨P, 8, none⟩ = some (.pointer (some ⟨B, 0, none⟩)) ∧ wr.cell? ⟨P, 20, none⟩ = some (.int .i64 fr)) (first | (with_reducible exact hcf _ _ i1) | (with_reducible exact hcf6 _ _ (h6 _ i1))) (first
      | (go_at_call 20; with_reducible refine (cs _).mono ?_; rintro e w7 ⟨rfl, b⟩; replace i1 := i1.below b; clear l11 l12 l13 l14 l15 l16 f11 f12 f13 f14 f15 f16 b; obtain ⟨l11, l12, l13, l14, l15, l16⟩ := k11 _ i1; have f11 := i1.free 13; have f12 := i1.free 14; have f13 := i1.free 15; have f14 := i1.free 16; have f15 := i1.free 17; have f16 := i1.free 18))
    replace i1 := h6 _ i1
    rename_i hHeld
    clear hHeld l11 l12 l13 l14 l15 l16 f11 f12 f13 f14 f15 f16 k11 h6 cs hcf hcf6 r6 r1
    generalize ((((((w7.setCell ⟨P, 13, none⟩ (.pointer (some ⟨B, 0, none⟩))).setCell ⟨P, 14, none⟩ (.int .i64 fr)).setCell ⟨P, 15, none⟩ (.int .i64 pl)).setCell ⟨P, 16, none⟩ (.int .i64 0)).setCell ⟨P, 17, none⟩ (.int .u64 0)).setCell ⟨P, 18, none⟩ (.int .i64 0)) = w8 at *
    have l24 := i1.cell r7.pc
    have f24 := i1.free 24
    have i9 := i1.set 24 (.int .i64 5)
    have r9 := r7.setpc 5
    go_wp2
    go_end0
    exact ⟨rfl, _, i9, by simp only [hfrH.out]; exact r9⟩
  · have hsw : r.swap K B g = ({ r with pc := 0 }, { g with T := g.T + 1 }) := by unfold La.swap; rw [if_neg hv]
    have c0 : ∀ wr, InF w wr lo M G B K.N g P (c.setIfInBounds 24 (.int .i64 0)) t → Calls Tryz.prog 41 #[.pointer (some ⟨M, 0, none⟩), .int .i64 (r.n.field : Nat), .int .u64 (r.n.word : Nat), .int .u64 ((r.fresh + 1 : Nat) : Int)] wr fun e w' => e = .returned (.bool false) ∧ InF w w' lo M G B K.N { g with T := g.T + 1 } P (c.setIfInBounds 24 (.int .i64 0)) t := fun wr x => by
      have := swapX_no x.gw.mem hl (v := r.fresh + 1) hv htb
      refine this.mono ?_
      rintro e w1 ⟨rfl, hm, ho⟩
      exact ⟨rfl, x.only hm ho hlen (by omega) hT⟩
    rw [hsw]
    clear hsw hv hl hlen cb
    have q9 := r1.n.field
    have q10 := r1.n.word
    have q20 := r1.fresh
    simp only at q9 q10 q20
    generalize (r.n.field : Int) = fi at *
    generalize (r.n.word : Int) = wo at *
    generalize ((r.fresh + 1 : Nat) : Int) = fr1 at *
    obtain ⟨fr, hfrI⟩ : ∃ fr : Int, (r.fresh : Int) = fr := ⟨_, rfl⟩
    rw [hfrI] at cnm q20
    clear hfrI
    go_enter Tryz.func59, Tryz.ntmps59
    go_upto_region 1 with fail
    clear l24 f24 is hr
    generalize w.setCell ⟨P, 24, none⟩ (.int .i64 0) = w1 at *
    generalize c.setIfInBounds 24 (.int .i64 0) = c1 at *
    have hcs : ∀ wr g', InF w wr lo M G B K.N g' P c1 t → wr.cell? ⟨P, 9, none⟩ = some (.int .i64 fi) ∧ wr.cell? ⟨P, 10, none⟩ = some (.int .u64 wo) ∧ wr.cell? ⟨P, 20, none⟩ = some (.int .i64 fr) := fun wr g' x => ⟨x.cell q9, x.cell q10, x.cell q20⟩
    replace i1 := i1.drew
    go_region_held (fun wr => wr.cell? ⟨P, 9, none⟩ = some (.int .i64 fi) ∧ wr.cell? ⟨P, 10, none⟩ = some (.int .u64 wo) ∧ wr.cell? ⟨P, 20, none⟩ = some (.int .i64 fr)) (with_reducible exact hcs _ _ i1) (first
      | (go_at_call 75; with_reducible refine (cnm _).mono ?_; rintro e w1 ⟨rfl, rfl⟩)
      | (go_at_call 41; with_reducible refine (c0 _ i1).mono ?_; rintro e w2 ⟨rfl, i1⟩))
    rename_i hHeld
    clear hHeld
    go_wp2
    go_end0
    exact ⟨rfl, _, i1, r1⟩
end Go.Proofs.YtnegdabcjnhpdaaGreatDoor
/- Whether an epoch is fenced. -/
namespace Go.Proofs.YtnegdabcjnhpdaaGreatDoor.Hh
open Go.RowKit

theorem phases_any (w : World) : Calls Tryz.prog 88 #[] w fun e w' =>
    e = .returned (.agg #[.complex .f64 4607182418800017408 0, .complex .f64 0 4607182418800017408, .complex .f64 13830554455654793216 0, .complex .f64 0 13830554455654793216]) ∧ Below w.heap.size w w' := by
  have rs := fun (a : Addr) (x y : Nat) (m : Mode) (w : World) => run_store Tryz.prog w a (.complex .f64 x y) m rfl
  go_enter Tryz.func88, Tryz.ntmps88
  go_wp2
  refine bodyPost_ret (v := .agg #[.complex .f64 4607182418800017408 0, .complex .f64 0 4607182418800017408, .complex .f64 13830554455654793216 0, .complex .f64 0 13830554455654793216]) (by simp [results, Tryz.results88, go_sem]) rfl ?_
  exact ⟨rfl, (Below.refl w.heap.size w).alloc (Nat.le_refl _) _⟩

theorem idx0 (k : IntKind) (w : World) : (Instr.index 140 (.agg #[.complex .f64 4607182418800017408 0, .complex .f64 0 4607182418800017408, .complex .f64 13830554455654793216 0, .complex .f64 0 13830554455654793216]) (.int k 0)).run Tryz.prog w = .ok (.complex .f64 4607182418800017408 0) w := by kernel_rfl
theorem idx1 (k : IntKind) (w : World) : (Instr.index 140 (.agg #[.complex .f64 4607182418800017408 0, .complex .f64 0 4607182418800017408, .complex .f64 13830554455654793216 0, .complex .f64 0 13830554455654793216]) (.int k 1)).run Tryz.prog w = .ok (.complex .f64 0 4607182418800017408) w := by kernel_rfl
theorem idx2 (k : IntKind) (w : World) : (Instr.index 140 (.agg #[.complex .f64 4607182418800017408 0, .complex .f64 0 4607182418800017408, .complex .f64 13830554455654793216 0, .complex .f64 0 13830554455654793216]) (.int k 2)).run Tryz.prog w = .ok (.complex .f64 13830554455654793216 0) w := by kernel_rfl
theorem idx3 (k : IntKind) (w : World) : (Instr.index 140 (.agg #[.complex .f64 4607182418800017408 0, .complex .f64 0 4607182418800017408, .complex .f64 13830554455654793216 0, .complex .f64 0 13830554455654793216]) (.int k 3)).run Tryz.prog w = .ok (.complex .f64 0 13830554455654793216) w := by kernel_rfl

set_option maxHeartbeats 400000 in
theorem at_any (e : Nat) (w : World) : Calls Tryz.prog 85 #[.int .u64 (e : Nat)] w fun r w' =>
    r = .returned (.complex .f64 (phR (e % 4)) (phI (e % 4))) ∧ Below w.heap.size w w' := by
  have h4 : e % 4 = 0 ∨ e % 4 = 1 ∨ e % 4 = 2 ∨ e % 4 = 3 := by omega
  have i0 := idx0
  have i1 := idx1
  have i2 := idx2
  have i3 := idx3
  rcases h4 with h | h | h | h
  all_goals
    have hi : (e : Int) % 4 = ((e % 4 : Nat) : Int) := by omega
    rw [h] at hi ⊢
    go_enter Tryz.func85, Tryz.ntmps85
    go_wp2_with (go_at_call 88; refine (phases_any _).mono ?_; rintro x w' ⟨rfl, hb⟩)
    go_ret
    exact ⟨rfl, hb⟩
theorem barrier_any {x y : Nat} {a b : Int} (hx : Rep x a) (hy : Rep y b) (w : World) :
    Calls Tryz.prog 84 #[.complex .f64 x y] w fun r w' => r = .returned (.bool (decide (a < b))) ∧ w = w' := by
  have e := rep_gt hy hx
  go_enter Tryz.func84, Tryz.ntmps84
  go_wp2
  go_ret
  exact ⟨rfl, rfl⟩

theorem fenced_any (e : Nat) (w : World) : Calls Tryz.prog 76 #[.int .u64 (e : Nat)] w fun r w' => r = .returned (.bool (decide (qR (e % 4) < qI (e % 4)))) ∧ Below w.heap.size w w' := by
  go_enter Tryz.func76, Tryz.ntmps76
  go_wp2_with (first
    | (go_at_call 85; refine (at_any e _).mono ?_; rintro r w1 ⟨rfl, b1⟩)
    | (go_at_call 84; refine (barrier_any (rep_phR _) (rep_phI _) _).mono ?_; rintro r w2 ⟨rfl, rfl⟩))
  go_ret
  exact ⟨rfl, b1⟩

/-- An epoch that is a fence or a mark. -/
def fen (e : Nat) : Bool := decide (e % 4 = 1 ∨ e % 4 = 2)
theorem fen_any (e : Nat) (w : World) : Calls Tryz.prog 76 #[.int .u64 (e : Nat)] w fun r w' => r = .returned (.bool (fen e)) ∧ Below w.heap.size w w' := by
  have h : decide (qR (e % 4) < qI (e % 4)) = fen e := by
    unfold fen qR qI
    have h4 : e % 4 = 0 ∨ e % 4 = 1 ∨ e % 4 = 2 ∨ e % 4 = 3 := by omega
    rcases h4 with h | h | h | h <;> rw [h] <;> rfl
  rw [← h]
  exact fenced_any e w
end Go.Proofs.YtnegdabcjnhpdaaGreatDoor.Hh
/- Contracts of package field's Lay: the next older one, and the barrier. -/
namespace Go.Proofs.YtnegdabcjnhpdaaGreatDoor
open Go.RowKit
open Mm (IsMem MS touched Only)
open Hh (WT fen fen_any)

/-- The fresh record's next older one is told. -/
def La.oldG (r : La) (K : Cf) (g : Gs) : Gs := { g with X := g.X.set (K.bd r.fresh 2) (r.n.rc + 1).toNat, T := g.T + 1 }
theorem stored_any {w wr : World} {lo M G B P : Nat} {g : Gs} {c : Array Value} {t : TypeId} {K : Cf} {r : La} (hB : 3 ≤ K.B) (is : InF w wr lo M G B K.N g P c t) (hfr : r.fresh < K.S) (hrc : -1 ≤ r.n.rc ∧ r.n.rc < (K.S : Int)) (hK : K.Ok) (hT : g.T + 1 < 4611686018427387904) {pl va : Int} (hpl : ((K.bd r.fresh 2 : Nat) : Int) = pl) (hva : (((r.n.rc + 1).toNat : Nat) : Int) = va) :
    Calls Tryz.prog 68 #[.pointer (some ⟨M, 0, none⟩), .int .i64 pl, .int .u64 va] wr fun e w' => e = .returned (.bool true) ∧ InF w w' lo M G B K.N (r.oldG K g) P c t := by
  have hlen := is.gw.len
  have hS := hK.s64
  have hl : K.bd r.fresh 2 < g.X.length := by rw [hlen]; exact K.bd_lt hfr (by omega)
  have := storeX is.gw.mem (v := (r.n.rc + 1).toNat) hl (by omega) is.gw.tb
  rw [hpl, hva] at this
  refine this.mono ?_
  rintro e w1 ⟨rfl, hm, ho⟩
  exact ⟨rfl, is.only hm ho (by rw [List.length_set]; exact hlen) (by omega) hT⟩

set_option maxHeartbeats 4000000 in
theorem storeOlder_no {w : World} {lo M G B P : Nat} {g : Gs} {c : Array Value} {t : TypeId} {K : Cf} {r : La} (hK : K.Ok) (hB : 3 ≤ K.B) (is : InF w w lo M G B K.N g P c t) (hr : LaAt c B K r) (hrc : -1 ≤ r.n.rc ∧ r.n.rc < (K.S : Int)) (hfr : r.fresh < K.S) (hT : g.T + 1 < 4611686018427387904) (hf : r.n.rc = -1 ∨ fen r.e = false) :
    Calls Tryz.prog 57 #[.pointer (some ⟨P, 0, none⟩), .pointer (some ⟨M, 0, none⟩)] w fun e w' => e = .returned (.tuple #[]) ∧ ∃ c', InF w w' lo M G B K.N (r.oldG K g) P c' t ∧ LaAt c' B K { r with pc := 4 } := by
  have hS := hK.s64
  have is0 := is
  obtain ⟨pl, hpl⟩ : ∃ pl : Int, ((K.bd r.fresh 2 : Nat) : Int) = pl := ⟨_, rfl⟩
  obtain ⟨va, hva⟩ : ∃ va : Int, (((r.n.rc + 1).toNat : Nat) : Int) = va := ⟨_, rfl⟩
  have cnm := naming_any r.n.rc (by omega) (n := (r.n.rc + 1).toNat) (by omega)
  have cb := fun w => body_at hK hfr (i := 2) (by omega) rfl (u := 2) rfl w
  have cst := fun wr (x : InF w wr lo M G B K.N g P c t) => stored_any hB x hfr hrc hK hT hpl hva
  rw [hva] at cnm
  simp only [hpl] at cb
  unfold Cf.cs at cb
  have q20 := hr.fresh
  have q12 := hr.n.rc
  generalize (r.fresh : Int) = fr at *
  have hcs : ∀ wr, InF w wr lo M G B K.N g P c t → (wr.cell? ⟨P, 2, none⟩ = some (.int .i64 (K.S : Nat)) ∧ wr.cell? ⟨P, 3, none⟩ = some (.int .i64 K.a) ∧ wr.cell? ⟨P, 4, none⟩ = some (.int .i64 (K.C : Nat)) ∧ wr.cell? ⟨P, 5, none⟩ = some (.int .i64 (K.D : Nat)) ∧ wr.cell? ⟨P, 6, none⟩ = some (.int .i64 K.g) ∧ wr.cell? ⟨P, 7, none⟩ = some (.int .i64 K.k)) ∧ wr.cell? ⟨P, 20, none⟩ = some (.int .i64 fr) ∧ wr.cell? ⟨P, 12, none⟩ = some (.int .i64 r.n.rc) := fun wr x => ⟨hr.cfg x, x.cell q20, x.cell q12⟩
  have hcs2 : ∀ wr, InF w wr lo M G B K.N (r.oldG K g) P c t → (wr.cell? ⟨P, 2, none⟩ = some (.int .i64 (K.S : Nat)) ∧ wr.cell? ⟨P, 3, none⟩ = some (.int .i64 K.a) ∧ wr.cell? ⟨P, 4, none⟩ = some (.int .i64 (K.C : Nat)) ∧ wr.cell? ⟨P, 5, none⟩ = some (.int .i64 (K.D : Nat)) ∧ wr.cell? ⟨P, 6, none⟩ = some (.int .i64 K.g) ∧ wr.cell? ⟨P, 7, none⟩ = some (.int .i64 K.k)) ∧ wr.cell? ⟨P, 20, none⟩ = some (.int .i64 fr) ∧ wr.cell? ⟨P, 12, none⟩ = some (.int .i64 r.n.rc) := fun wr x => ⟨hr.cfg x, x.cell q20, x.cell q12⟩
  clear hpl hva
  go_enter Tryz.func57, Tryz.ntmps57
  go_upto_region 0 with fail
  replace is := is.drew
  go_region_held (fun wr => (wr.cell? ⟨P, 2, none⟩ = some (.int .i64 (K.S : Nat)) ∧ wr.cell? ⟨P, 3, none⟩ = some (.int .i64 K.a) ∧ wr.cell? ⟨P, 4, none⟩ = some (.int .i64 (K.C : Nat)) ∧ wr.cell? ⟨P, 5, none⟩ = some (.int .i64 (K.D : Nat)) ∧ wr.cell? ⟨P, 6, none⟩ = some (.int .i64 K.g) ∧ wr.cell? ⟨P, 7, none⟩ = some (.int .i64 K.k)) ∧ wr.cell? ⟨P, 20, none⟩ = some (.int .i64 fr) ∧ wr.cell? ⟨P, 12, none⟩ = some (.int .i64 r.n.rc)) (first | (with_reducible exact hcs2 _ i1) | (with_reducible exact hcs _ is)) (first
    | (go_at_call 37; with_reducible refine (cb _).mono ?_; rintro e w1 ⟨rfl, b⟩; replace is := is.below b; clear b)
    | (go_at_call 75; with_reducible refine (cnm _).mono ?_; rintro e w1 ⟨rfl, rfl⟩)
    | (go_at_call 68; with_reducible refine (cst _ is).mono ?_; rintro e w2 ⟨rfl, i1⟩))
  rename_i hHeld
  clear hHeld hcs hcs2 cst cnm cb is
  have l24 := i1.cell hr.pc
  have f24 := i1.free 24
  have i2 := i1.set 24 (.int .i64 4)
  have r2 := hr.setpc 4
  go_upto_region 2 with fail
  clear l24 f24 i1
  generalize w2.setCell ⟨P, 24, none⟩ (.int .i64 4) = w3 at *
  generalize c.setIfInBounds 24 (.int .i64 4) = c2 at *
  by_cases h1 : r.n.rc = -1
  · rw [h1] at q12
    have q12' := r2.n.rc
    simp only [h1] at q12'
    have l12 := i2.cell q12'
    go_wp2
    go_end0
    exact ⟨rfl, _, i2, r2⟩
  · have hf2 : fen r.e = false := by rcases hf with h | h; exact absurd h h1; exact h
    have cF := fen_any r.e
    rw [hf2] at cF
    have q12' := r2.n.rc
    have q22' := r2.e
    simp only at q12' q22'
    have l12 := i2.cell q12'
    have l22 := i2.cell q22'
    have hne : (r.n.rc == -1) = false := by simpa using h1
    go_wp2_with (go_at_call 76; refine (cF _).mono ?_; rintro e w4 ⟨rfl, b⟩; replace i2 := i2.below b)
    go_end0
    exact ⟨rfl, _, i2, r2⟩

set_option maxHeartbeats 4000000 in
theorem storeOlder_yes {w : World} {lo M G B P : Nat} {g : Gs} {c : Array Value} {t : TypeId} {K : Cf} {r : La} (hK : K.Ok) (hB : 3 ≤ K.B) (is : InF w w lo M G B K.N g P c t) (hr : LaAt c B K r) (hrc : -1 ≤ r.n.rc ∧ r.n.rc < (K.S : Int)) (hfr : r.fresh < K.S) (hT : g.T + 1 < 4611686018427387904) (h1 : r.n.rc ≠ -1) (hf2 : fen r.e = true) :
    Calls Tryz.prog 57 #[.pointer (some ⟨P, 0, none⟩), .pointer (some ⟨M, 0, none⟩)] w fun e w' => e = .returned (.tuple #[]) ∧ ∃ c', InF w w' lo M G B K.N (r.oldG K g) P c' t ∧ ∃ Q, LaAt c' B K { r with pc := 3, sh := some ⟨Q, false, K.hd r.n.rc.toNat, 0, 0, 0⟩ } ∧ IsShd w' Q false (K.hd r.n.rc.toNat : Nat) r.e 0 0 0 ∧ w.heap.size ≤ Q := by
  have hS := hK.s64
  have is0 := is
  obtain ⟨pl, hpl⟩ : ∃ pl : Int, ((K.bd r.fresh 2 : Nat) : Int) = pl := ⟨_, rfl⟩
  obtain ⟨va, hva⟩ : ∃ va : Int, (((r.n.rc + 1).toNat : Nat) : Int) = va := ⟨_, rfl⟩
  have cnm := naming_any r.n.rc (by omega) (n := (r.n.rc + 1).toNat) (by omega)
  have cb := fun w => body_at hK hfr (i := 2) (by omega) rfl (u := 2) rfl w
  have cst := fun wr (x : InF w wr lo M G B K.N g P c t) => stored_any hB x hfr hrc hK hT hpl hva
  rw [hva] at cnm
  simp only [hpl] at cb
  unfold Cf.cs at cb
  have q20 := hr.fresh
  have q12 := hr.n.rc
  generalize (r.fresh : Int) = fr at *
  have hcs : ∀ wr, InF w wr lo M G B K.N g P c t → (wr.cell? ⟨P, 2, none⟩ = some (.int .i64 (K.S : Nat)) ∧ wr.cell? ⟨P, 3, none⟩ = some (.int .i64 K.a) ∧ wr.cell? ⟨P, 4, none⟩ = some (.int .i64 (K.C : Nat)) ∧ wr.cell? ⟨P, 5, none⟩ = some (.int .i64 (K.D : Nat)) ∧ wr.cell? ⟨P, 6, none⟩ = some (.int .i64 K.g) ∧ wr.cell? ⟨P, 7, none⟩ = some (.int .i64 K.k)) ∧ wr.cell? ⟨P, 20, none⟩ = some (.int .i64 fr) ∧ wr.cell? ⟨P, 12, none⟩ = some (.int .i64 r.n.rc) := fun wr x => ⟨hr.cfg x, x.cell q20, x.cell q12⟩
  have hcs2 : ∀ wr, InF w wr lo M G B K.N (r.oldG K g) P c t → (wr.cell? ⟨P, 2, none⟩ = some (.int .i64 (K.S : Nat)) ∧ wr.cell? ⟨P, 3, none⟩ = some (.int .i64 K.a) ∧ wr.cell? ⟨P, 4, none⟩ = some (.int .i64 (K.C : Nat)) ∧ wr.cell? ⟨P, 5, none⟩ = some (.int .i64 (K.D : Nat)) ∧ wr.cell? ⟨P, 6, none⟩ = some (.int .i64 K.g) ∧ wr.cell? ⟨P, 7, none⟩ = some (.int .i64 K.k)) ∧ wr.cell? ⟨P, 20, none⟩ = some (.int .i64 fr) ∧ wr.cell? ⟨P, 12, none⟩ = some (.int .i64 r.n.rc) := fun wr x => ⟨hr.cfg x, x.cell q20, x.cell q12⟩
  clear hpl hva
  go_enter Tryz.func57, Tryz.ntmps57
  go_upto_region 0 with fail
  replace is := is.drew
  go_region_held (fun wr => (wr.cell? ⟨P, 2, none⟩ = some (.int .i64 (K.S : Nat)) ∧ wr.cell? ⟨P, 3, none⟩ = some (.int .i64 K.a) ∧ wr.cell? ⟨P, 4, none⟩ = some (.int .i64 (K.C : Nat)) ∧ wr.cell? ⟨P, 5, none⟩ = some (.int .i64 (K.D : Nat)) ∧ wr.cell? ⟨P, 6, none⟩ = some (.int .i64 K.g) ∧ wr.cell? ⟨P, 7, none⟩ = some (.int .i64 K.k)) ∧ wr.cell? ⟨P, 20, none⟩ = some (.int .i64 fr) ∧ wr.cell? ⟨P, 12, none⟩ = some (.int .i64 r.n.rc)) (first | (with_reducible exact hcs2 _ i1) | (with_reducible exact hcs _ is)) (first
    | (go_at_call 37; with_reducible refine (cb _).mono ?_; rintro e w1 ⟨rfl, b⟩; replace is := is.below b; clear b)
    | (go_at_call 75; with_reducible refine (cnm _).mono ?_; rintro e w1 ⟨rfl, rfl⟩)
    | (go_at_call 68; with_reducible refine (cst _ is).mono ?_; rintro e w2 ⟨rfl, i1⟩))
  rename_i hHeld
  clear hHeld hcs hcs2 cst cnm cb is
  have l24 := i1.cell hr.pc
  have f24 := i1.free 24
  have i2 := i1.set 24 (.int .i64 4)
  have r2 := hr.setpc 4
  go_upto_region 2 with fail
  clear l24 f24 i1
  generalize w2.setCell ⟨P, 24, none⟩ (.int .i64 4) = w3 at *
  generalize c.setIfInBounds 24 (.int .i64 4) = c2 at *
  have cF := fen_any r.e
  rw [hf2] at cF
  have q12' := r2.n.rc
  have q22' := r2.e
  simp only at q12' q22'
  have l12 := i2.cell q12'
  have l22 := i2.cell q22'
  have hne : (r.n.rc == -1) = false := by simpa using h1
  go_upto_region 3 with (go_at_call 76; refine (cF _).mono ?_; rintro e w4 ⟨rfl, b⟩; replace i2 := i2.below b)
  clear l12 l22 cF hf2 b hne
  have cN := newShade_yes hK r.n.rc.toNat (by omega) r.e
  rw [show ((r.n.rc.toNat : Nat) : Int) = r.n.rc by omega] at cN
  unfold Cf.cs at cN
  generalize (r.e : Int) = ei at *
  have hcf : ∀ wr, InF w wr lo M G B K.N (r.oldG K g) P c2 t → (wr.cell? ⟨P, 2, none⟩ = some (.int .i64 (K.S : Nat)) ∧ wr.cell? ⟨P, 3, none⟩ = some (.int .i64 K.a) ∧ wr.cell? ⟨P, 4, none⟩ = some (.int .i64 (K.C : Nat)) ∧ wr.cell? ⟨P, 5, none⟩ = some (.int .i64 (K.D : Nat)) ∧ wr.cell? ⟨P, 6, none⟩ = some (.int .i64 K.g) ∧ wr.cell? ⟨P, 7, none⟩ = some (.int .i64 K.k)) ∧ wr.cell? ⟨P, 12, none⟩ = some (.int .i64 r.n.rc) ∧ wr.cell? ⟨P, 22, none⟩ = some (.int .u64 ei) := fun wr x => ⟨r2.cfg x, x.cell q12', x.cell q22'⟩
  have hcf' : ∀ wr Q, InF w wr lo M G B K.N (r.oldG K g) P c2 t → ((wr.setCell ⟨P, 23, none⟩ (.pointer (some ⟨Q, 0, none⟩))).cell? ⟨P, 2, none⟩ = some (.int .i64 (K.S : Nat)) ∧ (wr.setCell ⟨P, 23, none⟩ (.pointer (some ⟨Q, 0, none⟩))).cell? ⟨P, 3, none⟩ = some (.int .i64 K.a) ∧ (wr.setCell ⟨P, 23, none⟩ (.pointer (some ⟨Q, 0, none⟩))).cell? ⟨P, 4, none⟩ = some (.int .i64 (K.C : Nat)) ∧ (wr.setCell ⟨P, 23, none⟩ (.pointer (some ⟨Q, 0, none⟩))).cell? ⟨P, 5, none⟩ = some (.int .i64 (K.D : Nat)) ∧ (wr.setCell ⟨P, 23, none⟩ (.pointer (some ⟨Q, 0, none⟩))).cell? ⟨P, 6, none⟩ = some (.int .i64 K.g) ∧ (wr.setCell ⟨P, 23, none⟩ (.pointer (some ⟨Q, 0, none⟩))).cell? ⟨P, 7, none⟩ = some (.int .i64 K.k)) ∧ (wr.setCell ⟨P, 23, none⟩ (.pointer (some ⟨Q, 0, none⟩))).cell? ⟨P, 12, none⟩ = some (.int .i64 r.n.rc) ∧ (wr.setCell ⟨P, 23, none⟩ (.pointer (some ⟨Q, 0, none⟩))).cell? ⟨P, 22, none⟩ = some (.int .u64 ei) := fun wr Q x => by
    have y := x.set 23 (.pointer (some ⟨Q, 0, none⟩))
    have z := r2.setsh ⟨Q, false, 0, 0, 0, 0⟩
    exact ⟨z.cfg y, y.cell (by rw [get_set_ne (by omega)]; exact q12'), y.cell (by rw [get_set_ne (by omega)]; exact q22')⟩
  replace i2 := i2.drew
  have l23 := i2.cell r2.sh
  have f23 := i2.free 23
  go_region_held (fun wr => (wr.cell? ⟨P, 2, none⟩ = some (.int .i64 (K.S : Nat)) ∧ wr.cell? ⟨P, 3, none⟩ = some (.int .i64 K.a) ∧ wr.cell? ⟨P, 4, none⟩ = some (.int .i64 (K.C : Nat)) ∧ wr.cell? ⟨P, 5, none⟩ = some (.int .i64 (K.D : Nat)) ∧ wr.cell? ⟨P, 6, none⟩ = some (.int .i64 K.g) ∧ wr.cell? ⟨P, 7, none⟩ = some (.int .i64 K.k)) ∧ wr.cell? ⟨P, 12, none⟩ = some (.int .i64 r.n.rc) ∧ wr.cell? ⟨P, 22, none⟩ = some (.int .u64 ei)) (first | (with_reducible exact hcf _ i2) | (with_reducible exact hcf' _ _ i2)) (first
    | (go_at_call 77; with_reducible refine (cN _).mono ?_; rintro e w5 ⟨Q, rfl, sh, hQ, b⟩; have hQ0 := Nat.le_trans i2.cm.size hQ; replace i2 := i2.below b; clear l23 f23 b; have l23 := i2.cell r2.sh; have f23 := i2.free 23))
  rename_i hHeld
  clear hHeld l23 f23 cN hcf hcf' hQ
  replace i2 := i2.set 23 (.pointer (some ⟨Q, 0, none⟩))
  have r3 := r2.setsh ⟨Q, false, K.hd r.n.rc.toNat, 0, 0, 0⟩
  have hQP : Q ≠ P := fun h => by subst h; exact absurd (lt_of_block is0.blk) (by omega)
  replace sh : IsShd (w5.setCell ⟨P, 23, none⟩ (.pointer (some ⟨Q, 0, none⟩))) Q false (K.hd r.n.rc.toNat : Nat) r.e 0 0 0 := IsShd.chg sh ((Chg.refl [P] w5).setCell (by simp) _) (by simp; exact hQP)
  generalize w5.setCell ⟨P, 23, none⟩ (.pointer (some ⟨Q, 0, none⟩)) = w6 at *
  have l24 := i2.cell r3.pc
  have f24 := i2.free 24
  have i4 := i2.set 24 (.int .i64 3)
  have r4 := r3.setpc 3
  replace sh : IsShd (w6.setCell ⟨P, 24, none⟩ (.int .i64 3)) Q false (K.hd r.n.rc.toNat : Nat) r.e 0 0 0 := IsShd.chg sh ((Chg.refl [P] w6).setCell (by simp) _) (by simp; exact hQP)
  clear i2 r3 r2 is0
  go_wp2
  go_end0
  exact ⟨rfl, _, i4, Q, r4, sh, hQ0⟩
end Go.Proofs.YtnegdabcjnhpdaaGreatDoor
/- Contracts of package field's Lay: stamping the fresh record. -/
namespace Go.Proofs.YtnegdabcjnhpdaaGreatDoor
open Go.RowKit
open Mm (IsMem MS touched Only)
open Hh (WT)

theorem NwAt.putS {c : Array Value} {o B : Nat} {K : Cf} {n : Nw} (h : NwAt c o B K n) (hb : n.sb = some ⟨B, 0, none⟩) (s' : Sm) (h1 : s'.rc = n.s.rc) (h2 : s'.place = n.s.place) :
    NwAt (smPut c (o + 11) s') o B K { n with s := s' } ∧ Same c (smPut c (o + 11) s') (o + 8) (o + 17) := by
  have x := h.put hb s' n.on h1 h2
  rwa [set_get (by rw [smPut_other (by omega)]; exact h.on)] at x

/-- A step of what stamps the fresh record. -/
def La.stamp (r : La) (g : Gs) : La × Gs :=
  if (r.n.s.step g).1.pc = 3 then (⟨true, optI ((r.n.s.step g).2.k.born r.fresh), { r.n with s := (r.n.s.step g).1 }, r.fresh, r.expect, r.e, r.sh, 6⟩, (r.n.s.step g).2)
  else ({ r with n := { r.n with s := (r.n.s.step g).1 } }, (r.n.s.step g).2)
set_option maxHeartbeats 4000000 in
theorem stampFresh_any {w : World} {lo M G B P : Nat} {g : Gs} {c : Array Value} {t : TypeId} {K : Cf} {r : La} (hK : K.Ok) (is : InF w w lo M G B K.N g P c t) (hr : LaAt c B K r) (hsb : r.n.sb = some ⟨B, 0, none⟩) (hsk : r.n.s.Ok K.N) (hfr : r.fresh < K.S) (hT : g.T + 1 < 4611686018427387904) :
    Calls Tryz.prog 60 #[.pointer (some ⟨P, 0, none⟩), .pointer (some ⟨M, 0, none⟩)] w fun e w' => e = .returned (.tuple #[]) ∧ ∃ c', InF w w' lo M G B K.N (r.stamp g).2 P c' t ∧ LaAt c' B K (r.stamp g).1 := by
  have hS := hK.s64
  have hwf : (Lit.int .i64 (r.fresh : Int)).wf = true := wf64 (by omega)
  have cf := stp_any is (hr.n.sm hsb) hsk hT
  obtain ⟨hk1, hk2⟩ := r.n.s.step_keeps g
  obtain ⟨s', g', hsg⟩ : ∃ s' g', r.n.s.step g = (s', g') := ⟨_, _, rfl⟩
  have e : r.stamp g = if s'.pc = 3 then (⟨true, optI (g'.k.born r.fresh), { r.n with s := s' }, r.fresh, r.expect, r.e, r.sh, 6⟩, g') else ({ r with n := { r.n with s := s' } }, g') := by unfold La.stamp; rw [hsg]
  rw [e]
  rw [hsg] at cf hk1 hk2
  simp only at cf hk1 hk2
  clear e hsg
  obtain ⟨n1, s1⟩ := hr.n.putS hsb s' hk1 hk2
  have r1 := hr.find n1 s1
  simp only [Nat.reduceAdd] at cf r1
  generalize smPut c 13 s' = c1 at *
  clear hsb
  by_cases h3 : s'.pc = 3
  · rw [decide_eq_true h3] at cf
    rw [if_pos h3]
    obtain ⟨pt, hpt⟩ : ∃ pt, optI (g'.k.born r.fresh) = pt := ⟨_, rfl⟩
    have cB : ∀ wr c1, InF w wr lo M G B K.N g' P c1 t → Calls Tryz.prog 12 #[.pointer (some ⟨B, 0, none⟩), .int .i64 (r.fresh : Int)] wr fun e w' => e = .returned (.int .i64 pt) ∧ wr = w' := fun wr c1 x => by
      obtain ⟨mb, mt, y⟩ := x.gw.book
      rw [← hpt]
      exact born_any y (r.fresh : Int) hwf
    rw [hpt]
    clear hpt
    go_enter Tryz.func60, Tryz.ntmps60
    go_upto_region 1 with (go_at_call 9; refine cf.mono ?_; rintro e w1 ⟨rfl, i1⟩)
    have l0 := i1.cell r1.laid
    have f0 := i1.free 0
    have i2 := i1.set 0 (.bool true)
    have r2 := r1.setlaid true
    go_upto_region 2 with fail
    clear l0 f0 i1 r1 is hr cf
    generalize w1.setCell ⟨P, 0, none⟩ (.bool true) = w2 at *
    generalize c1.setIfInBounds 0 (.bool true) = c2 at *
    have q20 := r2.fresh
    have qb := r2.n.b
    simp only at q20
    have r3 := r2.setpoint pt
    have q20' := r3.fresh
    have qb' := r3.n.b
    simp only at q20'
    generalize (r.fresh : Int) = fr at *
    have h1 : ∀ wr, InF w wr lo M G B K.N g' P c2 t → InF w (wr.setCell ⟨P, 1, none⟩ (.int .i64 pt)) lo M G B K.N g' P (c2.setIfInBounds 1 (.int .i64 pt)) t := fun wr x => x.set _ _
    have l1 := i2.drew.cell r2.point
    have f1 := i2.drew.free 1
    have i2n := i2
    replace i2 := i2.drew
    go_region_held (fun wr => wr.cell? ⟨P, 20, none⟩ = some (.int .i64 fr) ∧ wr.cell? ⟨P, 8, none⟩ = some (.pointer (some ⟨B, 0, none⟩))) (first | (with_reducible exact ⟨i2.cell q20, i2.cell qb⟩) | (with_reducible exact ⟨(h1 _ i2).cell q20', (h1 _ i2).cell qb'⟩) | (with_reducible exact ⟨(h1 _ i2n).drew.cell q20', (h1 _ i2n).drew.cell qb'⟩)) (first
      | (go_at_call 12; with_reducible refine (cB _ _ i2).mono ?_; rintro e w4 ⟨rfl, rfl⟩))
    rename_i hHeld
    replace i2 := (h1 _ i2n).drew
    clear hHeld l1 f1 cB h1 i2n
    generalize (w2.setCell ⟨P, 1, none⟩ (.int .i64 pt)).drew = w5 at *
    have l24 := i2.cell r3.pc
    have f24 := i2.free 24
    have i4 := i2.set 24 (.int .i64 6)
    have r4 := r3.setpc 6
    go_wp2
    go_end0
    exact ⟨rfl, _, i4, r4⟩
  · rw [decide_eq_false h3] at cf
    rw [if_neg h3]
    go_enter Tryz.func60, Tryz.ntmps60
    go_wp2_with (go_at_call 9; refine cf.mono ?_; rintro e w1 ⟨rfl, i1⟩)
    go_end0
    exact ⟨rfl, c1, i1, r1⟩
end Go.Proofs.YtnegdabcjnhpdaaGreatDoor
/- Contracts of package field's Lay: a step. -/
namespace Go.Proofs.YtnegdabcjnhpdaaGreatDoor
open Go.RowKit
open Mm (IsMem MS touched Only)
open Hh (WT fen fen_any)

/-- A step of a Lay's Shade. -/
def Sd.step (s : Sd) (e : Nat) (g : Gs) : Sd × Gs :=
  if s.pc = 0 then
    if canS (g.X.getD s.hd 0) e = true then ({ s with pc := 1, was := g.X.getD s.hd 0, nw := shN (g.X.getD s.hd 0) e }, { g with T := g.T + 1 })
    else ({ s with pc := 4, was := g.X.getD s.hd 0, nw := g.X.getD s.hd 0 }, { g with T := g.T + 1 })
  else if s.pc = 1 then ({ s with pc := 2 }, { g with X := g.X.set 2 (Mm.sumW (g.X.getD 2 0) 1), T := g.T + 1 })
  else if s.pc = 2 then
    if g.X.getD s.hd 0 = s.was then ({ s with gw := true, pc := 4 }, { g with X := g.X.set s.hd s.nw, T := g.T + 1 })
    else ({ s with pc := 3 }, { g with T := g.T + 1 })
  else ({ s with pc := 0 }, { g with X := g.X.set 2 (Mm.sumW (g.X.getD 2 0) 18446744073709551615), T := g.T + 1 })
def Sd.In (s : Sd) (w : World) (e : Nat) : Prop := IsShd w s.Q s.gw (s.hd : Nat) e s.pc s.was s.nw
structure Sd.Ok (s : Sd) (N : Nat) : Prop where
  pc : s.pc = 0 ∨ s.pc = 1 ∨ s.pc = 2 ∨ s.pc = 3
  hd : s.hd < N
  nw : s.nw < 18446744073709551616
theorem Sd.step_Q (s : Sd) (e : Nat) (g : Gs) : (s.step e g).1.Q = s.Q ∧ (s.step e g).1.hd = s.hd ∧ (s.step e g).2.T = g.T + 1 ∧ (s.step e g).2.k = g.k := by
  unfold Sd.step
  repeat' split
  all_goals exact ⟨rfl, rfl, rfl, rfl⟩
theorem Sd.step_len (s : Sd) (e : Nat) (g : Gs) : (s.step e g).2.X.length = g.X.length := by
  unfold Sd.step
  repeat' split
  all_goals simp only [List.length_set]
theorem sd_any {w : World} {lo M G B N : Nat} {g : Gs} {s : Sd} {e : Nat} (gw : GW w lo M G B N g) (hN : 2 < N) (he : e < 18446744073709551616) (hs : s.In w e) (hk : s.Ok N) (h1 : s.Q ≠ M) (h2 : s.Q ≠ G) :
    Calls Tryz.prog 58 #[.pointer (some ⟨s.Q, 0, none⟩), .pointer (some ⟨M, 0, none⟩)] w fun r w' => r = .returned (.bool (decide ((s.step e g).1.pc = 4))) ∧ MemX w' M G (s.step e g).2.X (g.T + 1) ∧ (s.step e g).1.In w' e ∧ WT w' ∧ Chg [s.Q, M, G] w w' := by
  have hl := gw.len
  unfold Sd.In at hs ⊢
  unfold Sd.step
  rcases hk.pc with h | h | h | h
  · rw [if_pos h]
    rw [h] at hs
    by_cases hc : canS (g.X.getD s.hd 0) e = true
    · rw [if_pos hc]
      exact (ds_0y gw.mem hs gw.wt h1 h2 gw.tb (by rw [hl]; exact hk.hd) he rfl hc).mono fun r w' ⟨a, b, c, d, f⟩ => ⟨by rw [a]; rfl, b, c, d, f⟩
    · rw [if_neg hc]
      exact (ds_0n gw.mem hs gw.wt h1 h2 gw.tb (by rw [hl]; exact hk.hd) he rfl (by simpa using hc)).mono fun r w' ⟨a, b, c, d, f⟩ => ⟨by rw [a]; rfl, b, c, d, f⟩
  · rw [if_neg (by omega), if_pos h]
    rw [h] at hs
    exact (ds_1 gw.mem hs gw.wt h1 h2 gw.tb (by omega) rfl).mono fun r w' ⟨a, b, c, d, f⟩ => ⟨by rw [a]; rfl, b, c, d, f⟩
  · rw [if_neg (by omega), if_neg (by omega), if_pos h]
    rw [h] at hs
    by_cases hc : g.X.getD s.hd 0 = s.was
    · rw [if_pos hc]
      exact (ds_2y gw.mem hs gw.wt h1 h2 gw.tb (by rw [hl]; exact hk.hd) hc hk.nw rfl).mono fun r w' ⟨a, b, c, d, f⟩ => ⟨by rw [a]; rfl, b, c, d, f⟩
    · rw [if_neg hc]
      exact (ds_2n gw.mem hs gw.wt h1 h2 gw.tb (by rw [hl]; exact hk.hd) rfl hc).mono fun r w' ⟨a, b, c, d, f⟩ => ⟨by rw [a]; rfl, b, c, d, f⟩
  · rw [if_neg (by omega), if_neg (by omega), if_neg (by omega)]
    rw [h] at hs
    exact (ds_3 gw.mem hs gw.wt h1 h2 gw.tb (by omega) rfl).mono fun r w' ⟨a, b, c, d, f⟩ => ⟨by rw [a]; rfl, b, c, d, f⟩

/-- A step of a Lay; a Shade that it makes lies in block Q. -/
def La.step (r : La) (K : Cf) (B Q : Nat) (g : Gs) : La × Gs :=
  if r.pc = 0 then (if (r.n.find K B g).1.on = true then { r with n := (r.n.find K B g).1 } else La.found { r with n := (r.n.find K B g).1 } (r.n.find K B g).2, (r.n.find K B g).2)
  else if r.pc = 1 then (r.comp { g with T := g.T + 1 } (nm K (g.X.getD (K.bd r.n.rc.toNat 0) 0)), { g with T := g.T + 1 })
  else if r.pc = 2 then (if r.n.rc ≠ -1 ∧ fen r.e = true then { r with pc := 3, sh := some ⟨Q, false, K.hd r.n.rc.toNat, 0, 0, 0⟩ } else { r with pc := 4 }, r.oldG K g)
  else if r.pc = 3 then
    match r.sh with
    | some s => ({ r with sh := some (s.step r.e g).1, pc := if (s.step r.e g).1.pc = 4 then 4 else 3 }, (s.step r.e g).2)
    | none => (r, g)
  else if r.pc = 4 then r.swap K B g
  else if r.pc = 5 then r.stamp g
  else (r, g)
structure La.Ok (r : La) (K : Cf) (B : Nat) : Prop where
  n : r.n.Fit K B
  fresh : r.fresh < K.S
  e : r.e < 18446744073709551616
  pc : 0 ≤ r.pc ∧ r.pc ≤ 6
  at1 : r.pc = 1 → 0 ≤ r.n.rc
  at3 : r.pc = 3 → ∃ s, r.sh = some s ∧ s.Ok K.N
  at5 : r.pc = 5 → r.n.sb = some ⟨B, 0, none⟩ ∧ r.n.s.Ok K.N
/-- The Shade of a Lay as it lies in the heap. -/
def La.Sh (r : La) (w : World) (lo M G B P : Nat) : Prop := ∀ s, r.sh = some s → s.In w r.e ∧ s.Q ≠ P ∧ s.Q ≠ M ∧ s.Q ≠ G ∧ s.Q ≠ B ∧ lo ≤ s.Q
def La.qs (r : La) : List Nat := match r.sh with | some s => [s.Q] | none => []
structure LaEnd (w w' : World) (lo M G B N P : Nat) (K : Cf) (t : TypeId) (L : List Nat) (r' : La) (g' : Gs) : Prop where
  gw : GW w' lo M G B N g'
  blk : ∃ c', w'.heap[P]? = some (.cells c' t (0, 0)) ∧ LaAt c' B K r'
  cm : Cm lo (P :: M :: G :: B :: L) w w'
  sh : r'.Sh w' lo M G B P
theorem La.Sh.inF {r r' : La} {w w' : World} {lo M G B N P : Nat} {g : Gs} {c : Array Value} {t : TypeId} (h : r.Sh w lo M G B P) (he : r'.sh = r.sh) (hE : r'.e = r.e) (is : InF w w' lo M G B N g P c t) : r'.Sh w' lo M G B P := fun s hs => by
  obtain ⟨h1, h2, h3, h4, h5, h6⟩ := h s (by rw [← he]; exact hs)
  rw [hE]
  exact ⟨IsShd.cm h1 is.cm (by simp; exact ⟨h2, h3, h4, h5⟩), h2, h3, h4, h5, h6⟩
theorem LaEnd.inF {r r' : La} {w w' : World} {lo M G B N P : Nat} {K : Cf} {g : Gs} {c : Array Value} {t : TypeId} (L : List Nat) (h : r.Sh w lo M G B P) (he : r'.sh = r.sh) (hE : r'.e = r.e) (is : InF w w' lo M G B N g P c t) (hr : LaAt c B K r') : LaEnd w w' lo M G B N P K t L r' g :=
  ⟨is.gw, ⟨c, is.blk, hr⟩, is.cm.mono (fun i hi => by simp at hi ⊢; rcases hi with h | h | h | h <;> simp [h]), h.inF he hE is⟩
theorem La.comp_keeps (r : La) (g : Gs) (z : Int) : (r.comp g z).sh = r.sh ∧ (r.comp g z).e = r.e := by
  unfold La.comp; split <;> exact ⟨rfl, rfl⟩
theorem La.found_keeps (r : La) (g : Gs) : (r.found g).sh = r.sh ∧ (r.found g).e = r.e := by
  unfold La.found; repeat' split
  all_goals first | exact ⟨rfl, rfl⟩ | exact r.comp_keeps g _
theorem La.swap_keeps (r : La) (K : Cf) (B : Nat) (g : Gs) : (r.swap K B g).1.sh = r.sh ∧ (r.swap K B g).1.e = r.e := by
  unfold La.swap; split <;> exact ⟨rfl, rfl⟩
theorem La.stamp_keeps (r : La) (g : Gs) : (r.stamp g).1.sh = r.sh ∧ (r.stamp g).1.e = r.e := by
  unfold La.stamp; split <;> exact ⟨rfl, rfl⟩
end Go.Proofs.YtnegdabcjnhpdaaGreatDoor
/- Contracts of package field's Lay: Step. -/
namespace Go.Proofs.YtnegdabcjnhpdaaGreatDoor
open Go.RowKit
open Mm (IsMem MS touched Only)
open Hh (WT fen fen_any)

/-- One of Lay's own helpers is called. -/
theorem la_call {w : World} {lo M G B P : Nat} {g : Gs} {c : Array Value} {t : TypeId} {K : Cf} {r : La} (is : InF w w lo M G B K.N g P c t) (hr : LaAt c B K r) {fn : Nat} (h1 : r.pc = 0 ∧ fn = 55 ∨ r.pc = 2 ∧ fn = 57 ∨ r.pc = 4 ∧ fn = 59 ∨ r.pc = 5 ∧ fn = 60) {g' : Gs} {R : Array Value → World → Prop} {z : Int} (hR : ∀ c' w', R c' w' → c'[24]? = some (.int .i64 z))
    (c0 : Calls Tryz.prog fn #[.pointer (some ⟨P, 0, none⟩), .pointer (some ⟨M, 0, none⟩)] w fun e w' => e = .returned (.tuple #[]) ∧ ∃ c', InF w w' lo M G B K.N g' P c' t ∧ R c' w') :
    Calls Tryz.prog 33 #[.pointer (some ⟨P, 0, none⟩), .pointer (some ⟨M, 0, none⟩)] w fun e w' => e = .returned (.bool (decide (z = 6))) ∧ ∃ c', InF w w' lo M G B K.N g' P c' t ∧ R c' w' := by
  have lb := is.cell hr.n.b
  have l24 := is.cell hr.pc
  have hd : (z == 6) = decide (z = 6) := by by_cases e : z = 6 <;> simp [e]
  rw [← hd]
  rcases h1 with ⟨h1, rfl⟩ | ⟨h1, rfl⟩ | ⟨h1, rfl⟩ | ⟨h1, rfl⟩
  · rw [h1] at l24
    clear hr hd h1 is
    go_enter Tryz.func33, Tryz.ntmps33
    go_wp2_with (go_at_call 55; refine c0.mono ?_; rintro e w1 ⟨rfl, c1, i1, x1⟩; have m3 := i1.cell (hR _ _ x1))
    go_ret
    exact ⟨rfl, c1, i1, x1⟩
  · rw [h1] at l24
    clear hr hd h1 is
    go_enter Tryz.func33, Tryz.ntmps33
    go_wp2_with (go_at_call 57; refine c0.mono ?_; rintro e w1 ⟨rfl, c1, i1, x1⟩; have m3 := i1.cell (hR _ _ x1))
    go_ret
    exact ⟨rfl, c1, i1, x1⟩
  · rw [h1] at l24
    clear hr hd h1 is
    go_enter Tryz.func33, Tryz.ntmps33
    go_wp2_with (go_at_call 59; refine c0.mono ?_; rintro e w1 ⟨rfl, c1, i1, x1⟩; have m3 := i1.cell (hR _ _ x1))
    go_ret
    exact ⟨rfl, c1, i1, x1⟩
  · rw [h1] at l24
    clear hr hd h1 is
    go_enter Tryz.func33, Tryz.ntmps33
    go_wp2_with (go_at_call 60; refine c0.mono ?_; rintro e w1 ⟨rfl, c1, i1, x1⟩; have m3 := i1.cell (hR _ _ x1))
    go_ret
    exact ⟨rfl, c1, i1, x1⟩
theorem la_value {w : World} {lo M G B P : Nat} {g : Gs} {c : Array Value} {t : TypeId} {K : Cf} {r : La} (hK : K.Ok) (hB : 3 ≤ K.B) (is : InF w w lo M G B K.N g P c t) (hr : LaAt c B K r) (hk : r.n.Fit K B) (h1 : r.pc = 1) (h0 : 0 ≤ r.n.rc) (hT : g.T + 1 < 4611686018427387904) {r' : La} (hr' : r.comp { g with T := g.T + 1 } (nm K (g.X.getD (K.bd r.n.rc.toNat 0) 0)) = r') :
    Calls Tryz.prog 33 #[.pointer (some ⟨P, 0, none⟩), .pointer (some ⟨M, 0, none⟩)] w fun e w' => e = .returned (.bool (decide (r'.pc = 6))) ∧ ∃ c', InF w w' lo M G B K.N { g with T := g.T + 1 } P c' t ∧ LaAt c' B K r' := by
  have lb := is.cell hr.n.b
  have l24 := is.cell hr.pc
  rw [h1] at l24
  have hrb := hk.rc
  have hd : (r'.pc == 6) = decide (r'.pc = 6) := by by_cases e : r'.pc = 6 <;> simp [e]
  rw [← hd]
  have cl := nloadSlot_any hK is hr.n hT (r := r.n.rc.toNat) (i := 0) (by omega) (by omega) (by omega) (iz := 0) rfl rfl
  obtain ⟨z, hz⟩ : ∃ z, nm K (g.X.getD (K.bd r.n.rc.toNat 0) 0) = z := ⟨_, rfl⟩
  rw [hz] at cl hr'
  have cc : ∀ wr, InF w wr lo M G B K.N { g with T := g.T + 1 } P c t → Calls Tryz.prog 56 #[.pointer (some ⟨P, 0, none⟩), .int .i64 z] wr fun e w' => e = .returned (.tuple #[]) ∧ ∃ c', InF w w' lo M G B K.N { g with T := g.T + 1 } P c' t ∧ LaAt c' B K r' := fun wr x => by
    rw [← hr']
    exact (compare_any x.restart hr (wf_rc hK hrb) z).mono fun e w' ⟨h1, c', h2, h3⟩ => ⟨h1, c', x.join h2, h3⟩
  clear hr' hz hd h1
  go_enter Tryz.func33, Tryz.ntmps33
  go_wp2_with (first
    | (go_at_call 52; refine cl.mono ?_; rintro e w1 ⟨rfl, i1⟩)
    | (go_at_call 56; refine (cc _ i1).mono ?_; rintro e w2 ⟨rfl, c2, i2, r2⟩; have m3 := i2.cell r2.pc))
  go_ret
  exact ⟨rfl, c2, i2, r2⟩
set_option maxHeartbeats 1000000 in
theorem la_shade {w : World} {lo M G B P : Nat} {g : Gs} {c : Array Value} {t : TypeId} {K : Cf} {r : La} (is : InF w w lo M G B K.N g P c t) (hr : LaAt c B K r) (hN : 2 < K.N) (he : r.e < 18446744073709551616) (hT : g.T + 1 < 4611686018427387904) (h1 : r.pc = 3) {s : Sd} (hs : r.sh = some s) (hk : s.Ok K.N) (hsh : r.Sh w lo M G B P) :
    Calls Tryz.prog 33 #[.pointer (some ⟨P, 0, none⟩), .pointer (some ⟨M, 0, none⟩)] w fun e w' => e = .returned (.bool false) ∧ LaEnd w w' lo M G B K.N P K t [s.Q] { r with sh := some (s.step r.e g).1, pc := if (s.step r.e g).1.pc = 4 then 4 else 3 } (s.step r.e g).2 := by
  obtain ⟨a1, a2, a3, a4, a5, a6⟩ := hsh s hs
  have cs := sd_any is.gw hN he a1 hk a3 a4
  have hq := s.step_Q r.e g
  have hlen := s.step_len r.e g
  have lb := is.cell hr.n.b
  have l24 := is.cell hr.pc
  have l23 := is.cell hr.sh
  rw [h1] at l24
  rw [hs] at l23
  simp only [Option.map_some] at l23
  obtain ⟨s', g', hsg⟩ : ∃ s' g', s.step r.e g = (s', g') := ⟨_, _, rfl⟩
  rw [hsg] at cs hq hlen ⊢
  simp only at cs hq hlen ⊢
  have gw1 : ∀ w', MemX w' M G g'.X (g.T + 1) → WT w' → Chg [s.Q, M, G] w w' → GW w' lo M G B K.N g' := fun w' m wt ch => by
    obtain ⟨X', T', k'⟩ := g'
    obtain ⟨q1, q2, rfl, rfl⟩ := hq
    have hl1 := is.gw.lo1
    have hne := is.gw.ne
    refine ⟨m, ?_, wt, by rw [hlen]; exact is.gw.len, ⟨by have := is.gw.tb; show 0 ≤ g.T + 1; omega, hT⟩, is.gw.now, is.gw.ne, by have := ch.size; omega⟩
    obtain ⟨mb, mt, x⟩ := is.gw.book
    refine ⟨mb, mt, (x.chg ch (by simp; omega) fun i hi => ?_).mono (by show g.T.toNat ≤ (g.T + 1).toNat; omega)⟩
    simp at hi
    rcases hi with rfl | rfl | rfl
    · exact .inr ⟨_, _, _, a1⟩
    · exact .inr is.gw.mem.blocks.1
    · exact .inr is.gw.mem.blocks.2
  have hin : ∀ w', MemX w' M G g'.X (g.T + 1) → WT w' → Chg [s.Q, M, G] w w' → InF w' w' lo M G B K.N g' P c t := fun w' m wt ch => InF.start (gw1 w' m wt ch) (ch.at is.blk (by have := is.hP; simp; omega)) is.hP is.lo
  have hcm : ∀ w', Chg [s.Q, M, G] w w' → Cm lo (P :: M :: G :: B :: [s.Q]) w w' := fun w' ch => Cm.mono (Cm.of_chg ch) (by simp)
  have r1 : LaAt c B K { r with sh := some s' } := ⟨hr.laid, hr.point, hr.n, hr.fresh, hr.expect, hr.e, by have := hr.sh; rw [hs] at this; simpa [hq.1] using this, hr.pc⟩
  have hsd : ∀ w' e', s'.In w' e' → s'.In w' e' ∧ s'.Q ≠ P ∧ s'.Q ≠ M ∧ s'.Q ≠ G ∧ s'.Q ≠ B ∧ lo ≤ s'.Q := fun w' e' h => by rw [hq.1]; exact ⟨h, a2, a3, a4, a5, a6⟩
  have hQP := hq.1 ▸ a2
  clear hsg hlen hq gw1 a1 a2 a3 a4 a5 a6 hsh is
  by_cases h4 : s'.pc = 4
  · rw [decide_eq_true h4] at cs
    rw [if_pos h4]
    have r2 := r1.setpc 4
    go_enter Tryz.func33, Tryz.ntmps33
    go_upto_region 12 with (go_at_call 58; refine cs.mono ?_; rintro e w1 ⟨rfl, m1, s1, wt1, ch1⟩; have i1 := hin _ m1 wt1 ch1; have k24 := i1.cell r1.pc; have f24 := i1.free 24)
    have i2 := i1.set 24 (.int .i64 4)
    have cm1 := hcm _ ch1
    have sh2 : s'.In (w1.setCell ⟨P, 24, none⟩ (.int .i64 4)) r.e := IsShd.chg s1 ((Chg.refl [P] w1).setCell (by simp) _) (by simp; exact hQP)
    go_upto_region 17 with fail
    clear k24 f24 i1 l23 l24 lb s1 m1 wt1 ch1
    generalize w1.setCell ⟨P, 24, none⟩ (.int .i64 4) = w2 at *
    have m24 := i2.cell r2.pc
    simp only at m24
    go_wp2
    go_ret
    refine ⟨rfl, i2.gw, ⟨_, i2.blk, r2⟩, cm1.trans (i2.cm.mono (by simp)), fun s0 h0 => ?_⟩
    simp only [Option.some.injEq] at h0
    subst h0
    exact hsd _ _ sh2
  · rw [decide_eq_false h4] at cs
    rw [if_neg h4]
    have r2 : LaAt c B K { r with sh := some s', pc := 3 } := by rw [← h1]; exact r1
    go_enter Tryz.func33, Tryz.ntmps33
    go_wp2_with (go_at_call 58; refine cs.mono ?_; rintro e w1 ⟨rfl, m1, s1, wt1, ch1⟩; have i1 := hin _ m1 wt1 ch1; have k24 := i1.cell r2.pc; simp only at k24)
    go_ret
    refine ⟨rfl, i1.gw, ⟨_, i1.blk, r2⟩, hcm _ ch1, fun s0 h0 => ?_⟩
    simp only [Option.some.injEq] at h0
    subst h0
    exact hsd _ _ s1
end Go.Proofs.YtnegdabcjnhpdaaGreatDoor
/- Contracts of package field's Lay: Step in one, and what stays true. -/
namespace Go.Proofs.YtnegdabcjnhpdaaGreatDoor
open Go.RowKit
open Mm (IsMem MS touched Only)
open Hh (WT fen fen_any)

theorem la_any {w : World} {lo M G B P : Nat} {g : Gs} {c : Array Value} {t : TypeId} {K : Cf} {r : La} (hK : K.Ok) (hB : 3 ≤ K.B) (is : InF w w lo M G B K.N g P c t) (hr : LaAt c B K r) (hk : r.Ok K B) (hsh : r.Sh w lo M G B P) (hT : g.T + 1 < 4611686018427387904) :
    Calls Tryz.prog 33 #[.pointer (some ⟨P, 0, none⟩), .pointer (some ⟨M, 0, none⟩)] w fun e w' => ∃ Q, e = .returned (.bool (decide ((r.step K B Q g).1.pc = 6))) ∧ LaEnd w w' lo M G B K.N P K t r.qs (r.step K B Q g).1 (r.step K B Q g).2 ∧ w.heap.size ≤ Q := by
  have hN : 2 < K.N := by have := K.bd_lt hk.fresh (i := 0) (by omega); have := K.bd_4 r.fresh 0; omega
  have hpc := hk.pc
  have h7 : r.pc = 0 ∨ r.pc = 1 ∨ r.pc = 2 ∨ r.pc = 3 ∨ r.pc = 4 ∨ r.pc = 5 ∨ r.pc = 6 := by omega
  rcases h7 with h | h | h | h | h | h | h
  · have hst : ∀ Q, r.step K B Q g = (if (r.n.find K B g).1.on = true then { r with n := (r.n.find K B g).1 } else La.found { r with n := (r.n.find K B g).1 } (r.n.find K B g).2, (r.n.find K B g).2) := fun Q => by unfold La.step; rw [if_pos h]
    refine (la_call (fn := 55) (z := (r.step K B 0 g).1.pc) is hr (.inl ⟨h, rfl⟩) (R := fun c' _ => LaAt c' B K (r.step K B 0 g).1) (fun c' w' x => x.pc) (by rw [hst]; exact findNewest_any hK hB is hr hk.n hT)).mono ?_
    rintro e w' ⟨rfl, c', i', r'⟩
    refine ⟨w.heap.size, by rw [hst, hst], ?_, Nat.le_refl _⟩
    rw [hst] at r' ⊢
    refine LaEnd.inF _ hsh ?_ ?_ i' r'
    · split; rfl; exact (La.found_keeps _ _).1
    · split; rfl; exact (La.found_keeps _ _).2
  · have hst : ∀ Q, r.step K B Q g = (r.comp { g with T := g.T + 1 } (nm K (g.X.getD (K.bd r.n.rc.toNat 0) 0)), { g with T := g.T + 1 }) := fun Q => by unfold La.step; rw [if_neg (by omega), if_pos h]
    refine (la_value hK hB is hr hk.n h (hk.at1 h) hT rfl).mono ?_
    rintro e w' ⟨rfl, c', i', r'⟩
    refine ⟨w.heap.size, by rw [hst], ?_, Nat.le_refl _⟩
    rw [hst]
    exact LaEnd.inF _ hsh (La.comp_keeps _ _ _).1 (La.comp_keeps _ _ _).2 i' r'
  · have hst : ∀ Q, r.step K B Q g = (if r.n.rc ≠ -1 ∧ fen r.e = true then { r with pc := 3, sh := some ⟨Q, false, K.hd r.n.rc.toNat, 0, 0, 0⟩ } else { r with pc := 4 }, r.oldG K g) := fun Q => by unfold La.step; rw [if_neg (by omega), if_neg (by omega), if_pos h]
    by_cases hf : r.n.rc ≠ -1 ∧ fen r.e = true
    · refine (la_call (fn := 57) (z := 3) is hr (.inr (.inl ⟨h, rfl⟩)) (R := fun c' w' => ∃ Q, LaAt c' B K { r with pc := 3, sh := some ⟨Q, false, K.hd r.n.rc.toNat, 0, 0, 0⟩ } ∧ IsShd w' Q false (K.hd r.n.rc.toNat : Nat) r.e 0 0 0 ∧ w.heap.size ≤ Q) (fun c' w' ⟨Q, x, _⟩ => x.pc) (storeOlder_yes hK hB is hr hk.n.rc hk.fresh hT hf.1 hf.2)).mono ?_
      rintro e w' ⟨rfl, c', i', Q, r', s', hQ⟩
      have hst' : r.step K B Q g = ({ r with pc := 3, sh := some ⟨Q, false, K.hd r.n.rc.toNat, 0, 0, 0⟩ }, r.oldG K g) := by rw [hst, if_pos hf]
      refine ⟨Q, by rw [hst'], ?_, hQ⟩
      rw [hst']
      refine ⟨i'.gw, ⟨c', i'.blk, r'⟩, i'.cm.mono (fun i hi => by simp at hi ⊢; rcases hi with h | h | h | h <;> simp [h]), fun s0 h0 => ?_⟩
      simp only [Option.some.injEq] at h0
      subst h0
      have hm := is.gw.mem.lt
      have hp := lt_of_block is.blk
      have hb : B < w.heap.size := by obtain ⟨mb, mt, x⟩ := is.gw.book; exact x.lt
      have hl := is.gw.lo1
      exact ⟨s', by show Q ≠ P; omega, by show Q ≠ M; omega, by show Q ≠ G; omega, by show Q ≠ B; omega, by show lo ≤ Q; omega⟩
    · have hst' : ∀ Q, r.step K B Q g = ({ r with pc := 4 }, r.oldG K g) := fun Q => by rw [hst, if_neg hf]
      refine (la_call (fn := 57) (z := 4) is hr (.inr (.inl ⟨h, rfl⟩)) (R := fun c' _ => LaAt c' B K { r with pc := 4 }) (fun c' w' x => x.pc) (storeOlder_no hK hB is hr hk.n.rc hk.fresh hT (by by_cases h1 : r.n.rc = -1; exact .inl h1; exact .inr (by by_cases h2 : fen r.e = true; exact absurd ⟨h1, h2⟩ hf; simpa using h2)))).mono ?_
      rintro e w' ⟨rfl, c', i', r'⟩
      refine ⟨w.heap.size, by rw [hst'], ?_, Nat.le_refl _⟩
      rw [hst']
      exact LaEnd.inF _ hsh rfl rfl i' r'
  · obtain ⟨s, hs, hsk⟩ := hk.at3 h
    have hst : ∀ Q, r.step K B Q g = ({ r with sh := some (s.step r.e g).1, pc := if (s.step r.e g).1.pc = 4 then 4 else 3 }, (s.step r.e g).2) := fun Q => by unfold La.step; rw [if_neg (by omega), if_neg (by omega), if_neg (by omega), if_pos h, hs]
    have hqs : r.qs = [s.Q] := by unfold La.qs; rw [hs]
    refine (la_shade is hr hN hk.e hT h hs hsk hsh).mono ?_
    rintro e w' ⟨rfl, x⟩
    refine ⟨w.heap.size, by rw [hst]; congr 2; symm; apply decide_eq_false; show ¬ (if _ then (4 : Int) else 3) = 6; split <;> omega, ?_, Nat.le_refl _⟩
    rw [hst, hqs]
    exact x
  · have hst : ∀ Q, r.step K B Q g = r.swap K B g := fun Q => by unfold La.step; rw [if_neg (by omega), if_neg (by omega), if_neg (by omega), if_neg (by omega), if_pos h]
    refine (la_call (fn := 59) (z := (r.swap K B g).1.pc) is hr (.inr (.inr (.inl ⟨h, rfl⟩))) (R := fun c' _ => LaAt c' B K (r.swap K B g).1) (fun c' w' x => x.pc) (swapField_any hK hB is hr hk.n.ok.field hk.fresh hT)).mono ?_
    rintro e w' ⟨rfl, c', i', r'⟩
    refine ⟨w.heap.size, by rw [hst], ?_, Nat.le_refl _⟩
    rw [hst]
    exact LaEnd.inF _ hsh (La.swap_keeps _ _ _ _).1 (La.swap_keeps _ _ _ _).2 i' r'
  · have hst : ∀ Q, r.step K B Q g = r.stamp g := fun Q => by unfold La.step; rw [if_neg (by omega), if_neg (by omega), if_neg (by omega), if_neg (by omega), if_neg (by omega), if_pos h]
    obtain ⟨h5, h6⟩ := hk.at5 h
    refine (la_call (fn := 60) (z := (r.stamp g).1.pc) is hr (.inr (.inr (.inr ⟨h, rfl⟩))) (R := fun c' _ => LaAt c' B K (r.stamp g).1) (fun c' w' x => x.pc) (stampFresh_any hK is hr h5 h6 hk.fresh hT)).mono ?_
    rintro e w' ⟨rfl, c', i', r'⟩
    refine ⟨w.heap.size, by rw [hst], ?_, Nat.le_refl _⟩
    rw [hst]
    exact LaEnd.inF _ hsh (La.stamp_keeps _ _).1 (La.stamp_keeps _ _).2 i' r'
  · have hst : ∀ Q, r.step K B Q g = (r, g) := fun Q => by unfold La.step; rw [if_neg (by omega), if_neg (by omega), if_neg (by omega), if_neg (by omega), if_neg (by omega), if_neg (by omega)]
    have lb := is.cell hr.n.b
    have l24 := is.cell hr.pc
    rw [h] at l24
    have c0 : Calls Tryz.prog 33 #[.pointer (some ⟨P, 0, none⟩), .pointer (some ⟨M, 0, none⟩)] w fun e w' => e = .returned (.bool true) ∧ w = w' := by
      go_enter Tryz.func33, Tryz.ntmps33
      go_wp2
      go_ret
      exact ⟨rfl, rfl⟩
    refine c0.mono ?_
    rintro e w' ⟨rfl, rfl⟩
    refine ⟨w.heap.size, by rw [hst, decide_eq_true h], ?_, Nat.le_refl _⟩
    rw [hst]
    exact LaEnd.inF _ hsh rfl rfl is hr
theorem la_nil (m : Value) (w : World) : Calls Tryz.prog 33 #[.pointer none, m] w fun e w' => e = .returned (.bool true) ∧ w = w' := by
  go_enter Tryz.func33, Tryz.ntmps33
  go_wp2
  go_ret
  exact ⟨rfl, rfl⟩
end Go.Proofs.YtnegdabcjnhpdaaGreatDoor
/- What stays true of a Lay, step by step. -/
namespace Go.Proofs.YtnegdabcjnhpdaaGreatDoor
open Go.RowKit
open Mm (IsMem MS touched Only)
open Hh (WT fen fen_any)

theorem Sd.step_ok {s : Sd} {N : Nat} (h : s.Ok N) (e : Nat) {g : Gs} (hx : ∀ i, g.X.getD i 0 < 18446744073709551616) : (s.step e g).1.pc = 4 ∨ (s.step e g).1.Ok N := by
  unfold Sd.step
  split
  · split
    · rename_i hc; exact .inr ⟨.inr (.inl rfl), h.hd, (sh_facts (hx _) hc).1⟩
    · exact .inl rfl
  · split
    · exact .inr ⟨.inr (.inr (.inl rfl)), h.hd, h.nw⟩
    · split
      · split
        · exact .inl rfl
        · exact .inr ⟨.inr (.inr (.inr rfl)), h.hd, h.nw⟩
      · exact .inr ⟨.inl rfl, h.hd, h.nw⟩
theorem La.ok_at {r : La} {K : Cf} {B : Nat} (hn : r.n.Fit K B) (hf : r.fresh < K.S) (he : r.e < 18446744073709551616) (p : Int) (hp : r.pc = p) (hb : 0 ≤ p ∧ p ≤ 6) (h1 : p ≠ 1) (h3 : p ≠ 3) (h5 : p ≠ 5) : r.Ok K B :=
  ⟨hn, hf, he, by rw [hp]; exact hb, fun h => absurd (hp.symm.trans h) h1, fun h => absurd (hp.symm.trans h) h3, fun h => absurd (hp.symm.trans h) h5⟩
theorem La.comp_ok {r : La} {K : Cf} {B : Nat} (hn : r.n.Fit K B) (hf : r.fresh < K.S) (he : r.e < 18446744073709551616) (g : Gs) (z : Int) : (r.comp g z).Ok K B := by
  unfold La.comp
  split
  · exact La.ok_at hn hf he 2 rfl (by omega) (by omega) (by omega) (by omega)
  · exact La.ok_at hn hf he 6 rfl (by omega) (by omega) (by omega) (by omega)
theorem La.found_ok {r : La} {K : Cf} {B : Nat} (hn : r.n.Fit K B) (hf : r.fresh < K.S) (he : r.e < 18446744073709551616) (g : Gs) : (r.found g).Ok K B := by
  unfold La.found
  split
  · exact La.ok_at hn hf he 2 rfl (by omega) (by omega) (by omega) (by omega)
  · split
    · exact La.comp_ok hn hf he g _
    · rename_i h1
      exact ⟨hn, hf, he, by show (0 : Int) ≤ 1 ∧ (1 : Int) ≤ 6; omega, fun _ => (by have := hn.rc; show 0 ≤ r.n.rc; omega), fun h => absurd (show (1 : Int) = 3 from h) (by omega), fun h => absurd (show (1 : Int) = 5 from h) (by omega)⟩
theorem La.step_ok {r : La} {K : Cf} {B : Nat} (hK : K.Ok) (hB : 3 ≤ K.B) (h : r.Ok K B) (Q : Nat) {g : Gs} (hx : ∀ i, g.X.getD i 0 < 18446744073709551616) (hn : -4611686018427387904 < g.k.now ∧ g.k.now < 4611686018427387904) : (r.step K B Q g).1.Ok K B := by
  have hf := Nw.find_fit hK hB h.n (g := g) (hx 0) hn
  unfold La.step
  split
  · rename_i h0
    show (if _ then _ else _ : La).Ok K B
    split
    · exact La.ok_at hf h.fresh h.e 0 h0 (by omega) (by omega) (by omega) (by omega)
    · exact La.found_ok (r := { r with n := (r.n.find K B g).1 }) hf h.fresh h.e _
  · split
    · exact La.comp_ok h.n h.fresh h.e _ _
    · split
      · rename_i h2
        show (if _ then _ else _ : La).Ok K B
        split
        · rename_i hc
          have hrc := h.n.rc
          exact ⟨h.n, h.fresh, h.e, by show (0 : Int) ≤ 3 ∧ (3 : Int) ≤ 6; omega, fun h => absurd (show (3 : Int) = 1 from h) (by omega), fun _ => ⟨_, rfl, .inl rfl, by have := K.bd_lt (s := r.n.rc.toNat) (i := 0) (by have := hc.1; omega) (by omega); unfold Cf.bd at this; show K.hd r.n.rc.toNat < K.N; omega, by show (0 : Nat) < _; omega⟩, fun h => absurd (show (3 : Int) = 5 from h) (by omega)⟩
        · exact La.ok_at h.n h.fresh h.e 4 rfl (by omega) (by omega) (by omega) (by omega)
      · split
        · rename_i h3
          obtain ⟨s, hs, hk⟩ := h.at3 h3
          rw [hs]
          show (⟨r.laid, r.point, r.n, r.fresh, r.expect, r.e, some (s.step r.e g).1, if (s.step r.e g).1.pc = 4 then 4 else 3⟩ : La).Ok K B
          have hz := Sd.step_ok hk r.e hx
          by_cases h4 : (s.step r.e g).1.pc = 4
          · rw [if_pos h4]
            exact La.ok_at h.n h.fresh h.e 4 rfl (by omega) (by omega) (by omega) (by omega)
          · rw [if_neg h4]
            exact ⟨h.n, h.fresh, h.e, by show (0 : Int) ≤ 3 ∧ (3 : Int) ≤ 6; omega, fun h => absurd (show (3 : Int) = 1 from h) (by omega), fun _ => ⟨_, rfl, hz.resolve_left h4⟩, fun h => absurd (show (3 : Int) = 5 from h) (by omega)⟩
        · split
          · unfold La.swap
            have hbd := K.bd_lt h.fresh (i := 1) (by omega)
            split
            · exact ⟨⟨⟨h.n.ok.field, h.n.ok.since, fun _ => ⟨rfl, by have := hK.s64; have := h.fresh; exact ⟨⟨by show (0 : Int) ≤ 0; omega, by show (0 : Int) ≤ 3; omega⟩, hbd, by show (0 : Nat) < _; omega, wf64 (by show _ < ((r.fresh : Nat) : Int) ∧ ((r.fresh : Nat) : Int) < _; omega), by show _ < (0 : Int) ∧ (0 : Int) < _; omega⟩⟩⟩, h.n.rc⟩, h.fresh, h.e, by show (0 : Int) ≤ 5 ∧ (5 : Int) ≤ 6; omega, fun h => absurd (show (5 : Int) = 1 from h) (by omega), fun h => absurd (show (5 : Int) = 3 from h) (by omega), fun _ => ⟨rfl, by have := hK.s64; have := h.fresh; exact ⟨⟨by show (0 : Int) ≤ 0; omega, by show (0 : Int) ≤ 3; omega⟩, hbd, by show (0 : Nat) < _; omega, wf64 (by show _ < ((r.fresh : Nat) : Int) ∧ ((r.fresh : Nat) : Int) < _; omega), by show _ < (0 : Int) ∧ (0 : Int) < _; omega⟩⟩⟩
            · exact La.ok_at h.n h.fresh h.e 0 rfl (by omega) (by omega) (by omega) (by omega)
          · split
            · rename_i h5
              obtain ⟨hb, hk⟩ := h.at5 h5
              have hk' := Sm.step_ok hk (hx 0) hn
              unfold La.stamp
              split
              · exact La.ok_at ⟨⟨h.n.ok.field, h.n.ok.since, fun _ => ⟨hb, hk'⟩⟩, h.n.rc⟩ h.fresh h.e 6 rfl (by omega) (by omega) (by omega) (by omega)
              · exact ⟨⟨⟨h.n.ok.field, h.n.ok.since, fun _ => ⟨hb, hk'⟩⟩, h.n.rc⟩, h.fresh, h.e, h.pc, fun h1 => absurd (h5.symm.trans h1) (by omega), fun h1 => absurd (h5.symm.trans h1) (by omega), fun _ => ⟨hb, hk'⟩⟩
            · exact h
end Go.Proofs.YtnegdabcjnhpdaaGreatDoor
/- Contracts of package field's Turn. -/
namespace Go.Proofs.YtnegdabcjnhpdaaGreatDoor
open Go.RowKit
open Mm (IsMem MS touched Only)
open Hh (WT)

structure Tu where
  view : Nat
  point : Int
  pc : Int
  clock : Nat
structure TuAt (c : Array Value) (B : Nat) (r : Tu) : Prop where
  view : c[0]? = some (.int .u64 (r.view : Nat))
  point : c[1]? = some (.int .i64 r.point)
  b : c[2]? = some (.pointer (some ⟨B, 0, none⟩))
  pc : c[3]? = some (.int .i64 r.pc)
  clock : c[4]? = some (.int .u64 (r.clock : Nat))
/-- The clock is turned on, or was meanwhile. -/
def Tu.swap (r : Tu) (g : Gs) : Gs := if g.X.getD 0 0 = r.clock then ⟨g.X.set 0 (Mm.sumW r.clock 1), g.T + 1, { g.k with turned := upd g.k.turned r.clock g.k.now }⟩ else { g with T := g.T + 1 }
def Tu.step (r : Tu) (g : Gs) : Tu × Gs :=
  if r.pc = 0 then ({ r with clock := g.X.getD 0 0, pc := 1 }, { g with T := g.T + 1 })
  else if r.pc = 1 then (⟨r.clock, optI ((r.swap g).k.turned r.clock), 2, r.clock⟩, r.swap g)
  else (r, g)
structure Tu.Ok (r : Tu) : Prop where
  pc : r.pc = 0 ∨ r.pc = 1 ∨ r.pc = 2
  clock : r.clock < 18446744073709551616
theorem Tu.step_ok {r : Tu} (h : r.Ok) {g : Gs} (hx : g.X.getD 0 0 < 18446744073709551616) : (r.step g).1.Ok := by
  unfold Tu.step
  split
  · exact ⟨.inr (.inl rfl), hx⟩
  · split
    · exact ⟨.inr (.inr rfl), h.clock⟩
    · exact h
theorem TuAt.set {c : Array Value} {B : Nat} {r : Tu} (h : TuAt c B r) :
    (∀ v : Nat, TuAt (c.setIfInBounds 0 (.int .u64 (v : Nat))) B { r with view := v }) ∧ (∀ v : Int, TuAt (c.setIfInBounds 1 (.int .i64 v)) B { r with point := v }) ∧ (∀ v : Int, TuAt (c.setIfInBounds 3 (.int .i64 v)) B { r with pc := v }) ∧ (∀ v : Nat, TuAt (c.setIfInBounds 4 (.int .u64 (v : Nat))) B { r with clock := v }) := by
  have hz := (Array.getElem?_eq_some_iff.1 h.clock).1
  refine ⟨fun v => ⟨get_set (by omega), by rw [get_set_ne (by omega)]; exact h.point, by rw [get_set_ne (by omega)]; exact h.b, by rw [get_set_ne (by omega)]; exact h.pc, by rw [get_set_ne (by omega)]; exact h.clock⟩, fun v => ⟨by rw [get_set_ne (by omega)]; exact h.view, get_set (by omega), by rw [get_set_ne (by omega)]; exact h.b, by rw [get_set_ne (by omega)]; exact h.pc, by rw [get_set_ne (by omega)]; exact h.clock⟩, fun v => ⟨by rw [get_set_ne (by omega)]; exact h.view, by rw [get_set_ne (by omega)]; exact h.point, by rw [get_set_ne (by omega)]; exact h.b, get_set (by omega), by rw [get_set_ne (by omega)]; exact h.clock⟩, fun v => ⟨by rw [get_set_ne (by omega)]; exact h.view, by rw [get_set_ne (by omega)]; exact h.point, by rw [get_set_ne (by omega)]; exact h.b, by rw [get_set_ne (by omega)]; exact h.pc, get_set (by omega)⟩⟩
theorem wfu {v : Nat} (h : v < 18446744073709551616) : (Lit.int .u64 (v : Int)).wf = true := by
  simp only [Lit.wf, Bool.and_eq_true, decide_eq_true_eq]
  simp [IntKind.min, IntKind.max, IntKind.bits, IntKind.signed]
  omega

set_option maxHeartbeats 4000000 in
theorem swapClock_any {w : World} {lo M G B P N : Nat} {g : Gs} {c : Array Value} {t : TypeId} {r : Tu} (is : InF w w lo M G B N g P c t) (hr : TuAt c B r) (hk : r.Ok) (hT : g.T + 1 < 4611686018427387904) (hN : 0 < N) :
    Calls Tryz.prog 26 #[.pointer (some ⟨P, 0, none⟩), .pointer (some ⟨M, 0, none⟩)] w fun e w' => e = .returned (.tuple #[]) ∧ ∃ c', InF w w' lo M G B N (r.swap g) P c' t ∧ TuAt c' B ⟨r.clock, optI ((r.swap g).k.turned r.clock), 2, r.clock⟩ := by
  have hck := hk.clock
  have hl : 0 < g.X.length := by rw [is.gw.len]; exact hN
  have hlen := is.gw.len
  have htb := is.gw.tb
  have hnw := wf64 is.gw.now
  have hcu := wfu hck
  have hsum := Mm.sumW_eq r.clock 1
  have hcs : ∀ wr g', InF w wr lo M G B N g' P c t → wr.cell? ⟨P, 4, none⟩ = some (.int .u64 (r.clock : Nat)) ∧ wr.cell? ⟨P, 2, none⟩ = some (.pointer (some ⟨B, 0, none⟩)) := fun wr g' x => ⟨x.cell hr.clock, x.cell hr.b⟩
  by_cases hv : g.X.getD 0 0 = r.clock
  · obtain ⟨k', hk'⟩ : ∃ k', ({ g.k with turned := upd g.k.turned r.clock g.k.now } : Bk) = k' := ⟨_, rfl⟩
    have hsw : r.swap g = ⟨g.X.set 0 (Mm.sumW r.clock 1), g.T + 1, k'⟩ := by unfold Tu.swap; rw [if_pos hv, hk']
    have c0 : ∀ wr, InF w wr lo M G B N g P c t → Calls Tryz.prog 41 #[.pointer (some ⟨M, 0, none⟩), .int .i64 0, .int .u64 (r.clock : Nat), .int .u64 (IntKind.u64.wrap ((r.clock : Int) + 1))] wr fun e w' => e = .returned (.bool true) ∧ MemX w' M G (g.X.set 0 (Mm.sumW r.clock 1)) (g.T + 1) ∧ Only M G wr w' := fun wr x => by
      have := swapX_yes x.gw.mem (i := 0) hl (Mm.sumW_lt r.clock 1) hv htb
      rw [← hsum] at this
      exact this
    have hlen2 : (g.X.set 0 (Mm.sumW r.clock 1)).length = N := by rw [List.length_set]; exact hlen
    have hmk : ∀ w2 mb mt', IsBook w2 lo B (g.T.toNat + 1) { g.k with turned := upd g.k.turned r.clock g.k.now } mb mt' → HasBook w2 lo B (g.T + 1).toNat k' := fun w2 mb mt' h => ⟨_, _, hk' ▸ h.mono (by omega)⟩
    have hnow : k'.now = g.k.now := by rw [← hk']
    rw [hsw]
    generalize g.X.set 0 (Mm.sumW r.clock 1) = X' at *
    have hnt : ∀ wr w2, InF w wr lo M G B N ⟨X', g.T + 1, g.k⟩ P c t → HasBook w2 lo B (g.T + 1).toNat k' → Cm lo [B] wr w2 → InF w w2 lo M G B N ⟨X', g.T + 1, k'⟩ P c t := fun wr w2 x h cm => x.noted h cm hnow
    clear hsw hsum hv hl hlen hk' hnow
    go_enter Tryz.func26, Tryz.ntmps26
    go_upto_region 0 with fail
    replace is := is.drew
    go_region_held (fun wr => wr.cell? ⟨P, 4, none⟩ = some (.int .u64 (r.clock : Nat)) ∧ wr.cell? ⟨P, 2, none⟩ = some (.pointer (some ⟨B, 0, none⟩))) (with_reducible exact hcs _ _ is) (first
      | (go_at_call 41; with_reducible refine (c0 _ is).mono ?_; rintro e w1 ⟨rfl, hm, ho⟩; have bk := is.gw.bookOnly ho; replace is := is.only hm ho hlen2 (by omega) hT))
    clear c0 hm ho
    rename_i hHeld
    clear hHeld
    go_upto_region 1 with fail
    replace is := is.drew
    replace bk := bk.below (Below.refl _ _).drew
    obtain ⟨mb, mt, bk⟩ := bk
    have c1 := fun wr (x : IsBook wr lo B g.T.toNat g.k mb mt) (h : lo ≤ wr.heap.size) => noteTurned_any x h (by omega) (r.clock : Int) hcu hnw
    go_region_held (fun wr => wr.cell? ⟨P, 4, none⟩ = some (.int .u64 (r.clock : Nat)) ∧ wr.cell? ⟨P, 2, none⟩ = some (.pointer (some ⟨B, 0, none⟩))) (with_reducible exact hcs _ _ is) (first
      | (go_at_call 43; with_reducible refine (c1 _ bk is.gw.lo1.2.2.2.2).mono ?_; rintro e w2 ⟨rfl, ⟨mt', bk2⟩, cm⟩; replace is := hnt _ _ is (hmk _ _ _ bk2) cm))
    rename_i hHeld
    clear hHeld bk c1 hmk hnt bk2 cm
    have l4 := is.cell hr.clock
    have l0 := is.cell hr.view
    have f0 := is.free 0
    have i2 := is.set 0 (.int .u64 (r.clock : Nat))
    have r2 := hr.set.1 r.clock
    go_upto_region 3 with fail
    clear l4 l0 f0 is hcs
    generalize w2.setCell ⟨P, 0, none⟩ (.int .u64 (r.clock : Nat)) = w3 at *
    generalize c.setIfInBounds 0 (.int .u64 (r.clock : Nat)) = c2 at *
    have ct : ∀ wr, InF w wr lo M G B N ⟨X', g.T + 1, k'⟩ P c2 t → Calls Tryz.prog 44 #[.pointer (some ⟨B, 0, none⟩), .int .u64 (r.clock : Nat)] wr fun e w' => e = .returned (.int .i64 (optI (k'.turned r.clock))) ∧ wr = w' := fun wr x => by
      obtain ⟨mb, mt, y⟩ := x.gw.book
      exact turned_any y (r.clock : Int) hcu
    obtain ⟨pt, hpt⟩ : ∃ pt, optI (k'.turned r.clock) = pt := ⟨_, rfl⟩
    rw [hpt] at ct
    have HP : Hid (optI (k'.turned r.clock) = pt) := hpt
    clear hpt
    have q4 := r2.clock
    have q2 := r2.b
    have q1 := r2.point
    simp only at q4 q2 q1
    have h1 : ∀ wr, InF w wr lo M G B N ⟨X', g.T + 1, k'⟩ P c2 t → InF w (wr.setCell ⟨P, 1, none⟩ (.int .i64 pt)) lo M G B N ⟨X', g.T + 1, k'⟩ P (c2.setIfInBounds 1 (.int .i64 pt)) t := fun wr x => x.set _ _
    have q4' : (c2.setIfInBounds 1 (.int .i64 pt))[4]? = some (.int .u64 (r.clock : Nat)) := by rw [get_set_ne (by omega)]; exact q4
    have q2' : (c2.setIfInBounds 1 (.int .i64 pt))[2]? = some (.pointer (some ⟨B, 0, none⟩)) := by rw [get_set_ne (by omega)]; exact q2
    have i2n := i2
    replace i2 := i2.drew
    have l1 := i2.cell q1
    have f1 := i2.free 1
    go_region_held (fun wr => wr.cell? ⟨P, 4, none⟩ = some (.int .u64 (r.clock : Nat)) ∧ wr.cell? ⟨P, 2, none⟩ = some (.pointer (some ⟨B, 0, none⟩))) (first | (with_reducible exact ⟨i2.cell q4, i2.cell q2⟩) | (with_reducible exact ⟨(h1 _ i2).cell q4', (h1 _ i2).cell q2'⟩) | (with_reducible exact ⟨(h1 _ i2n).drew.cell q4', (h1 _ i2n).drew.cell q2'⟩)) (first
      | (go_at_call 44; with_reducible refine (ct _ i2).mono ?_; rintro e w4 ⟨rfl, rfl⟩))
    rename_i hHeld
    clear hHeld l1 f1 ct
    replace i2 := (h1 _ i2n).drew
    clear i2n
    have r3 := r2.set.2.1 pt
    clear h1 q4 q2 q1 q4' q2'
    generalize (w3.setCell ⟨P, 1, none⟩ (.int .i64 pt)).drew = w5 at *
    have l3 := i2.cell r3.pc
    have f3 := i2.free 3
    have i4 := i2.set 3 (.int .i64 2)
    have r4 := r3.set.2.2.1 2
    clear i2
    go_wp2
    go_end0
    exact ⟨rfl, _, i4, by rw [HP.out]; exact r4⟩
  · obtain ⟨k', hk'⟩ : ∃ k', g.k = k' := ⟨_, rfl⟩
    obtain ⟨X', hX'⟩ : ∃ X', g.X = X' := ⟨_, rfl⟩
    have hsw : r.swap g = ⟨X', g.T + 1, k'⟩ := by unfold Tu.swap; rw [if_neg hv, hk', hX']
    have c0 : ∀ wr, InF w wr lo M G B N g P c t → Calls Tryz.prog 41 #[.pointer (some ⟨M, 0, none⟩), .int .i64 0, .int .u64 (r.clock : Nat), .int .u64 (IntKind.u64.wrap ((r.clock : Int) + 1))] wr fun e w' => e = .returned (.bool false) ∧ InF w w' lo M G B N ⟨X', g.T + 1, k'⟩ P c t := fun wr x => by
      have := swapX_no x.gw.mem (i := 0) hl (v := Mm.sumW r.clock 1) hv htb
      rw [← hsum] at this
      refine this.mono ?_
      rintro e w1 ⟨rfl, hm, ho⟩
      refine ⟨rfl, ?_⟩
      have := x.only hm ho hlen (by omega) hT
      rw [hk', hX'] at this
      exact this
    rw [hsw]
    clear hsw hsum hv hl hlen hk' hX'
    go_enter Tryz.func26, Tryz.ntmps26
    go_upto_region 0 with fail
    replace is := is.drew
    go_region_held (fun wr => wr.cell? ⟨P, 4, none⟩ = some (.int .u64 (r.clock : Nat)) ∧ wr.cell? ⟨P, 2, none⟩ = some (.pointer (some ⟨B, 0, none⟩))) (with_reducible exact hcs _ _ is) (first
      | (go_at_call 41; with_reducible refine (c0 _ is).mono ?_; rintro e w2 ⟨rfl, is⟩))
    clear c0
    rename_i hHeld
    clear hHeld
    have l4 := is.cell hr.clock
    have l0 := is.cell hr.view
    have f0 := is.free 0
    have i2 := is.set 0 (.int .u64 (r.clock : Nat))
    have r2 := hr.set.1 r.clock
    go_upto_region 3 with fail
    clear l4 l0 f0 is hcs
    generalize w2.setCell ⟨P, 0, none⟩ (.int .u64 (r.clock : Nat)) = w3 at *
    generalize c.setIfInBounds 0 (.int .u64 (r.clock : Nat)) = c2 at *
    have ct : ∀ wr, InF w wr lo M G B N ⟨X', g.T + 1, k'⟩ P c2 t → Calls Tryz.prog 44 #[.pointer (some ⟨B, 0, none⟩), .int .u64 (r.clock : Nat)] wr fun e w' => e = .returned (.int .i64 (optI (k'.turned r.clock))) ∧ wr = w' := fun wr x => by
      obtain ⟨mb, mt, y⟩ := x.gw.book
      exact turned_any y (r.clock : Int) hcu
    obtain ⟨pt, hpt⟩ : ∃ pt, optI (k'.turned r.clock) = pt := ⟨_, rfl⟩
    rw [hpt] at ct
    have HP : Hid (optI (k'.turned r.clock) = pt) := hpt
    clear hpt
    have q4 := r2.clock
    have q2 := r2.b
    have q1 := r2.point
    simp only at q4 q2 q1
    have h1 : ∀ wr, InF w wr lo M G B N ⟨X', g.T + 1, k'⟩ P c2 t → InF w (wr.setCell ⟨P, 1, none⟩ (.int .i64 pt)) lo M G B N ⟨X', g.T + 1, k'⟩ P (c2.setIfInBounds 1 (.int .i64 pt)) t := fun wr x => x.set _ _
    have q4' : (c2.setIfInBounds 1 (.int .i64 pt))[4]? = some (.int .u64 (r.clock : Nat)) := by rw [get_set_ne (by omega)]; exact q4
    have q2' : (c2.setIfInBounds 1 (.int .i64 pt))[2]? = some (.pointer (some ⟨B, 0, none⟩)) := by rw [get_set_ne (by omega)]; exact q2
    have i2n := i2
    replace i2 := i2.drew
    have l1 := i2.cell q1
    have f1 := i2.free 1
    go_region_held (fun wr => wr.cell? ⟨P, 4, none⟩ = some (.int .u64 (r.clock : Nat)) ∧ wr.cell? ⟨P, 2, none⟩ = some (.pointer (some ⟨B, 0, none⟩))) (first | (with_reducible exact ⟨i2.cell q4, i2.cell q2⟩) | (with_reducible exact ⟨(h1 _ i2).cell q4', (h1 _ i2).cell q2'⟩) | (with_reducible exact ⟨(h1 _ i2n).drew.cell q4', (h1 _ i2n).drew.cell q2'⟩)) (first
      | (go_at_call 44; with_reducible refine (ct _ i2).mono ?_; rintro e w4 ⟨rfl, rfl⟩))
    rename_i hHeld
    clear hHeld l1 f1 ct
    replace i2 := (h1 _ i2n).drew
    clear i2n
    have r3 := r2.set.2.1 pt
    clear h1 q4 q2 q1 q4' q2'
    generalize (w3.setCell ⟨P, 1, none⟩ (.int .i64 pt)).drew = w5 at *
    have l3 := i2.cell r3.pc
    have f3 := i2.free 3
    have i4 := i2.set 3 (.int .i64 2)
    have r4 := r3.set.2.2.1 2
    clear i2
    go_wp2
    go_end0
    exact ⟨rfl, _, i4, by rw [HP.out]; exact r4⟩
set_option maxHeartbeats 4000000 in
theorem tu_any {w : World} {lo M G B P N : Nat} {g : Gs} {c : Array Value} {t : TypeId} {r : Tu} (is : InF w w lo M G B N g P c t) (hr : TuAt c B r) (hk : r.Ok) (hT : g.T + 1 < 4611686018427387904) (hN : 0 < N) :
    Calls Tryz.prog 10 #[.pointer (some ⟨P, 0, none⟩), .pointer (some ⟨M, 0, none⟩)] w fun e w' => e = .returned (.bool (decide ((r.step g).1.pc = 2))) ∧ ∃ c', InF w w' lo M G B N (r.step g).2 P c' t ∧ TuAt c' B (r.step g).1 := by
  have lb := is.cell hr.b
  have l3 := is.cell hr.pc
  have hl : 0 < g.X.length := by rw [is.gw.len]; exact hN
  have hlen := is.gw.len
  have htb := is.gw.tb
  rcases hk.pc with h | h | h
  · have hst : r.step g = ({ r with clock := g.X.getD 0 0, pc := 1 }, { g with T := g.T + 1 }) := by unfold Tu.step; rw [if_pos h]
    rw [hst, decide_eq_false (by simp)]
    rw [h] at l3
    have cl : Calls Tryz.prog 24 #[.pointer (some ⟨M, 0, none⟩), .int .i64 0] w fun e w' => e = .returned (.int .u64 (g.X.getD 0 0 : Nat)) ∧ InF w w' lo M G B N { g with T := g.T + 1 } P c t := (loadX is.gw.mem (i := 0) hl htb rfl).mono fun e w' ⟨h1, h2, h3⟩ => ⟨h1, is.only h2 h3 hlen (by omega) hT⟩
    generalize g.X.getD 0 0 = x at *
    clear hst hk h
    go_enter Tryz.func10, Tryz.ntmps10
    go_upto_region 6 with (go_at_call 24; refine cl.mono ?_; rintro e w1 ⟨rfl, i1⟩; have m4 := i1.cell hr.clock; have f4 := i1.free 4)
    have i2 := i1.set 4 (.int .u64 (x : Nat))
    have r2 := hr.set.2.2.2 x
    clear m4 f4 i1
    generalize w1.setCell ⟨P, 4, none⟩ (.int .u64 (x : Nat)) = w2 at *
    have m3 := i2.cell r2.pc
    have f3 := i2.free 3
    have i3 := i2.set 3 (.int .i64 1)
    have r3 := r2.set.2.2.1 1
    go_upto_region 9 with fail
    clear m3 f3 i2 r2
    generalize w2.setCell ⟨P, 3, none⟩ (.int .i64 1) = w3 at *
    have m3 := i3.cell r3.pc
    simp only at m3
    go_wp2
    go_ret
    exact ⟨rfl, _, i3, r3⟩
  · have hst : r.step g = (⟨r.clock, optI ((r.swap g).k.turned r.clock), 2, r.clock⟩, r.swap g) := by unfold Tu.step; rw [if_neg (by omega), if_pos h]
    rw [hst, decide_eq_true (by simp)]
    rw [h] at l3
    have cs := swapClock_any is hr hk hT hN
    obtain ⟨rg, hrg⟩ : ∃ rg, (⟨r.clock, optI ((r.swap g).k.turned r.clock), 2, r.clock⟩ : Tu) = rg := ⟨_, rfl⟩
    have hpg : rg.pc = 2 := by rw [← hrg]
    simp only [hrg] at cs ⊢
    clear hrg
    clear hst hk h
    go_enter Tryz.func10, Tryz.ntmps10
    go_wp2_with (go_at_call 26; refine cs.mono ?_; rintro e w2 ⟨rfl, c2, i2, r2⟩; have m3 := i2.cell r2.pc; rw [hpg] at m3)
    go_ret
    exact ⟨rfl, c2, i2, r2⟩
  · have hst : r.step g = (r, g) := by unfold Tu.step; rw [if_neg (by omega), if_neg (by omega)]
    rw [hst, decide_eq_true h]
    rw [h] at l3
    go_enter Tryz.func10, Tryz.ntmps10
    go_wp2
    go_ret
    exact ⟨rfl, c, is, hr⟩
theorem tu_nil (m : Value) (w : World) : Calls Tryz.prog 10 #[.pointer none, m] w fun e w' => e = .returned (.bool true) ∧ w = w' := by
  go_enter Tryz.func10, Tryz.ntmps10
  go_wp2
  go_ret
  exact ⟨rfl, rfl⟩
end Go.Proofs.YtnegdabcjnhpdaaGreatDoor
/- A machine's first state, off the cells that it is made of. -/
namespace Go.Proofs.YtnegdabcjnhpdaaGreatDoor
open Go.RowKit
open Mm (IsMem MS touched Only)
open Hh (WT)

def nw0 (F : Nat) : Nw := ⟨F, 0, 0, -1, none, ⟨0, 0, 0, 0, 0⟩, false⟩
theorem nw0_fit {K : Cf} {B F : Nat} (hF : F < K.N) : (nw0 F).Fit K B :=
  ⟨⟨hF, by show _ < (0 : Int) ∧ (0 : Int) < _; omega, fun h => absurd (show false = true from h) (by decide)⟩, by show (-1 : Int) ≤ -1 ∧ (-1 : Int) < (K.S : Int); omega⟩
theorem rd0_at (K : Cf) (B F : Nat) : RdAt #[(.int .i64 (-1)), (.int .i64 (-1)), (.int .i64 0), (.int .i64 (K.S : Nat)), (.int .i64 K.a), (.int .i64 (K.C : Nat)), (.int .i64 (K.D : Nat)), (.int .i64 K.g), (.int .i64 K.k), (.pointer (some ⟨B, 0, none⟩)), (.int .i64 (F : Nat)), (.int .u64 0), (.int .i64 0), (.int .i64 (-1)), (.pointer none), (.int .i64 0), (.int .i64 0), (.int .i64 0), (.int .u64 0), (.int .i64 0), (.bool false), (.int .i64 0)] B K ⟨-1, -1, 0, nw0 F, 0⟩ :=
  ⟨rfl, rfl, rfl, ⟨rfl, rfl, rfl, rfl, rfl, rfl, rfl, rfl, rfl, rfl, rfl, rfl, rfl, rfl, rfl, rfl, rfl, rfl⟩, rfl⟩
theorem rd0_ok {K : Cf} {B F : Nat} (hF : F < K.N) : (⟨-1, -1, 0, nw0 F, 0⟩ : Rd).Ok K B := ⟨nw0_fit hF, .inl rfl⟩
theorem se0_at (K : Cf) (B F v : Nat) : SeAt #[(.int .i64 (-1)), (.int .i64 (K.S : Nat)), (.int .i64 K.a), (.int .i64 (K.C : Nat)), (.int .i64 (K.D : Nat)), (.int .i64 K.g), (.int .i64 K.k), (.pointer (some ⟨B, 0, none⟩)), (.int .i64 (F : Nat)), (.int .u64 0), (.int .i64 0), (.int .i64 (-1)), (.pointer none), (.int .i64 0), (.int .i64 0), (.int .i64 0), (.int .u64 0), (.int .i64 0), (.bool false), (.int .u64 (v : Nat)), (.int .i64 0)] B K ⟨-1, nw0 F, v, 0⟩ :=
  ⟨rfl, ⟨rfl, rfl, rfl, rfl, rfl, rfl, rfl, rfl, rfl, rfl, rfl, rfl, rfl, rfl, rfl, rfl, rfl, rfl⟩, rfl, rfl⟩
theorem se0_ok {K : Cf} {B F v : Nat} (hF : F < K.N) : (⟨-1, nw0 F, v, 0⟩ : Se).Ok K B := ⟨nw0_fit hF, .inl rfl⟩
theorem la0_at (K : Cf) (B F fr ep : Nat) (ex : Int) : LaAt #[(.bool false), (.int .i64 0), (.int .i64 (K.S : Nat)), (.int .i64 K.a), (.int .i64 (K.C : Nat)), (.int .i64 (K.D : Nat)), (.int .i64 K.g), (.int .i64 K.k), (.pointer (some ⟨B, 0, none⟩)), (.int .i64 (F : Nat)), (.int .u64 0), (.int .i64 0), (.int .i64 (-1)), (.pointer none), (.int .i64 0), (.int .i64 0), (.int .i64 0), (.int .u64 0), (.int .i64 0), (.bool false), (.int .i64 (fr : Nat)), (.int .i64 ex), (.int .u64 (ep : Nat)), (.pointer none), (.int .i64 0)] B K ⟨false, 0, nw0 F, fr, ex, ep, none, 0⟩ :=
  ⟨rfl, rfl, ⟨rfl, rfl, rfl, rfl, rfl, rfl, rfl, rfl, rfl, rfl, rfl, rfl, rfl, rfl, rfl, rfl, rfl, rfl⟩, rfl, rfl, rfl, rfl, rfl⟩
theorem la0_ok {K : Cf} {B F fr ep : Nat} {ex : Int} (hF : F < K.N) (hf : fr < K.S) (he : ep < 18446744073709551616) : (⟨false, 0, nw0 F, fr, ex, ep, none, 0⟩ : La).Ok K B :=
  La.ok_at (nw0_fit hF) hf he 0 rfl (by omega) (by omega) (by omega) (by omega)
theorem la0_sh (F fr ep : Nat) (ex : Int) (w : World) (lo M G B P : Nat) : (⟨false, 0, nw0 F, fr, ex, ep, none, 0⟩ : La).Sh w lo M G B P := fun s h => by cases h
theorem tu0_at (B : Nat) : TuAt #[.int .u64 0, .int .i64 0, .pointer (some ⟨B, 0, none⟩), .int .i64 0, .int .u64 0] B ⟨0, 0, 0, 0⟩ := ⟨rfl, rfl, rfl, rfl, rfl⟩
theorem tu0_ok : (⟨0, 0, 0, 0⟩ : Tu).Ok := ⟨.inl rfl, by show (0 : Nat) < _; omega⟩
theorem sm0_at (B r pl : Nat) : SmAt #[.pointer (some ⟨B, 0, none⟩), .int .i64 (r : Nat), .int .i64 (pl : Nat), .int .i64 0, .int .u64 0, .int .i64 0] 0 B ⟨r, pl, 0, 0, 0⟩ := ⟨rfl, rfl, rfl, rfl, rfl, rfl⟩
theorem sm0_ok {r pl N : Nat} (hp : pl < N) (hr : r < 4611686018427387904) : (⟨r, pl, 0, 0, 0⟩ : Sm).Ok N := ⟨⟨by show (0 : Int) ≤ 0; omega, by show (0 : Int) ≤ 3; omega⟩, hp, by show (0 : Nat) < _; omega, wf64 (by show _ < ((r : Nat) : Int) ∧ ((r : Nat) : Int) < _; omega), by show _ < (0 : Int) ∧ (0 : Int) < _; omega⟩
end Go.Proofs.YtnegdabcjnhpdaaGreatDoor
