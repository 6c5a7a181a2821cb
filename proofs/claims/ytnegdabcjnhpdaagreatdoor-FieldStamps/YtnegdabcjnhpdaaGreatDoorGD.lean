/- Small functions of the laws: slot, pick, laid, at, config; and what the laws begin with. -/
import Derived.Test.YtnegdabcjnhpdaaGreatDoorGA
import Derived.Test.YtnegdabcjnhpdaaGreatDoorPRmem
import Derived.Test.YtnegdabcjnhpdaaGreatDoorHhHHead
import Derived.Deep.RegionHeld3
import Derived.Deep.DeepCutAuto
import Derived.Test.YtnegdabcjnhpdaaGreatDoorGC
import Derived.Deep.AppendLies
namespace Go.Proofs.YtnegdabcjnhpdaaGreatDoor
open Go.RowKit
open Mm (IsMem IsWords MS touched Only zeroMS)
open Hh (WT wordOf IsHd)

/-- The config that the laws make. -/
def KC : Cf := ⟨40, 3, 1, 1, 9, 0, 3⟩
theorem KC_ok : KC.Ok := ⟨by decide, by decide, by decide, by decide, by decide, by decide, by decide, by decide⟩
theorem KC_N : KC.N = 208 := by decide
theorem KC_bd (s i : Nat) : KC.bd s i = 8 + s * 5 + 2 + i := by simp [Cf.bd, Cf.hd, KC]
theorem KC_hd (s : Nat) : KC.hd s = 8 + s * 5 := by simp [Cf.hd, KC]
def pk (x n : Int) : Int := (IntKind.u64.wrap x) % n
def sl (v : Int) : Int := if v < 0 then -1 else v + 1
theorem pk_b (x : Int) {n : Int} (hn : 0 < n) : 0 ≤ pk x n ∧ pk x n < n := ⟨Int.emod_nonneg _ (by omega), Int.emod_lt_of_pos _ hn⟩

theorem slot_any (v : Int) (h : v < 4611686018427387904) (w : World) : Calls Tryz.prog 34 #[.int .i64 v] w fun e w' => e = .returned (.int .i64 (sl v)) ∧ w = w' := by
  unfold sl
  by_cases hv : v < 0
  · rw [if_pos hv]
    go_enter Tryz.func34, Tryz.ntmps34
    go_wp2
    go_ret
    exact ⟨rfl, rfl⟩
  · rw [if_neg hv]
    go_enter Tryz.func34, Tryz.ntmps34
    go_wp2
    go_ret
    exact ⟨rfl, rfl⟩
theorem laid_any {w : World} {lo M G B N : Nat} {g : Gs} (gw : GW w lo M G B N g) {i v : Nat} (hi : i < N) (hv : v < 18446744073709551616) (hT : g.T + 1 < 4611686018427387904) :
    Calls Tryz.prog 48 #[.pointer (some ⟨M, 0, none⟩), .int .i64 (i : Nat), .int .u64 (v : Nat)] w fun e w' => e = .returned (.pointer (some ⟨M, 0, none⟩)) ∧ GW w' lo M G B N { g with X := g.X.set i v, T := g.T + 1 } ∧ Only M G w w' := by
  have c := storeX gw.mem (i := i) (by rw [gw.len]; exact hi) hv gw.tb
  have fin : ∀ w', MemX w' M G (g.X.set i v) (g.T + 1) ∧ Only M G w w' → GW w' lo M G B N { g with X := g.X.set i v, T := g.T + 1 } := fun w' h => gw.only h.1 h.2 (by rw [List.length_set]; exact gw.len) (by omega) hT
  clear hi hv hT gw
  generalize (i : Int) = iz at *
  generalize (v : Int) = vz at *
  go_enter Tryz.func48, Tryz.ntmps48
  go_wp2_with (go_at_call 68; refine c.mono ?_; rintro e w1 ⟨rfl, h1, h2⟩)
  go_ret
  exact ⟨rfl, fin _ ⟨h1, h2⟩, h2⟩
theorem at_any2 {K : Cf} {n : ByteArray} {x y : Int} {p : Int} (c : ∀ w, Calls Tryz.prog 27 #[.agg K.cs, .agg #[.string n, .int .i64 x, .int .i64 y]] w fun e w' => e = .returned (.int .i64 p) ∧ Below w.heap.size w w') (w : World) :
    Calls Tryz.prog 11 #[.agg K.cs, .string n, .int .i64 x, .int .i64 y] w fun e w' => e = .returned (.int .i64 p) ∧ Below w.heap.size w w' := by
  have b1 := alloc_below w (.cells #[.int .i64 (K.S : Nat), .int .i64 K.a, .int .i64 (K.C : Nat), .int .i64 (K.D : Nat), .int .i64 K.g, .int .i64 K.k] 30)
  have hh := cfg_new w K.S K.a K.C K.D K.g K.k
  obtain ⟨l0, l1, l2, l3, l4, l5⟩ := hh.cells
  unfold Cf.cs at c ⊢
  go_enter Tryz.func11, Tryz.ntmps11
  go_wp2_with (go_at_call 27; refine (c _).mono ?_; rintro e w1 ⟨rfl, b⟩)
  go_ret
  exact ⟨rfl, seq_below b1 b⟩
theorem at_header {s : Nat} (hs : s < 40) (w : World) : Calls Tryz.prog 11 #[.agg KC.cs, .string (nb 8), .int .i64 (s : Nat), .int .i64 0] w fun e w' => e = .returned (.int .i64 (KC.hd s : Nat)) ∧ Below w.heap.size w w' :=
  at_any2 (K := KC) (fun w => at_yes (C := 1) (D := 1) (S := 40) (B := 3) (a := 3) (g := 9) (k := 0) (by decide) (by decide) (by decide) 8 s 0 (KC.hd s) (by omega) (by rw [KC_hd]; show _ < 208; omega) (wat_header 1 1 3 s) w) w
theorem at_body {s i : Nat} (hs : s < 40) (hi : i < 3) (w : World) : Calls Tryz.prog 11 #[.agg KC.cs, .string (nb 10), .int .i64 (s : Nat), .int .i64 (i : Nat)] w fun e w' => e = .returned (.int .i64 (KC.bd s i : Nat)) ∧ Below w.heap.size w w' :=
  at_any2 (K := KC) (fun w => at_yes (C := 1) (D := 1) (S := 40) (B := 3) (a := 3) (g := 9) (k := 0) (by decide) (by decide) (by decide) 10 s i (KC.bd s i) (by omega) (by rw [KC_bd]; show _ < 208; omega) (by
    have := wat_body 1 1 3 s i hi
    rw [← this]; congr 1; rw [KC_bd]; omega) w) w
end Go.Proofs.YtnegdabcjnhpdaaGreatDoor
/- What a hand does, told by pure states: no world in sight. -/
namespace Go.Proofs.YtnegdabcjnhpdaaGreatDoor
open Go.RowKit

structure Ac where
  kind : Int
  fld : Int
  val : Int
  expect : Int
structure Dn where
  point : Int
  behind : Bool
  act : Ac
  val : Int
  laid : Bool
structure Wl where
  g : Gs
  next : Nat
  done : List Dn
  bad : Bool
inductive Mc where
  | read (r : Rd)
  | lay (l : La)
  | turn (t : Tu)
  | see (s : Se) (seen view : Nat) (vals : List Int) (tp : Int)
structure Hn where
  acts : List Ac
  cur : Option (Ac × Mc)

def Ac.norm (a : Ac) (next : Nat) : Ac :=
  ⟨if (pk a.kind 4 = 1 ∨ pk a.kind 4 = 2) ∧ 40 ≤ next then 0 else pk a.kind 4, pk a.fld 2, pk a.val 5 - 1, pk a.expect 5 - 1⟩
/-- What an act (as it was made right) begins with. -/
def beg (a : Ac) (u : Wl) : Mc × Wl :=
  if a.kind = 0 then (.read ⟨-1, -1, 0, nw0 (KC.bd 0 a.fld.toNat), 0⟩, u)
  else if a.kind = 3 then (.turn ⟨0, 0, 0, 0⟩, u)
  else (.lay ⟨false, 0, nw0 (KC.bd 0 a.fld.toNat), u.next, if a.kind = 2 then sl a.expect else -2, 2, none, 0⟩,
    { u with g := { u.g with X := u.g.X.set (KC.bd u.next 0) (sl a.val + 1).toNat, T := u.g.T + 1 }, next := u.next + 1 })
def four (tp : Int) (l : List Int) : List Dn := [⟨tp, true, ⟨3, 0, 0, 0⟩, l.getD 0 0, false⟩, ⟨tp, true, ⟨3, 1, 0, 0⟩, l.getD 1 0, false⟩, ⟨tp, true, ⟨3, 0, 0, 0⟩, l.getD 2 0, false⟩, ⟨tp, true, ⟨3, 1, 0, 0⟩, l.getD 3 0, false⟩]
def seeM (n v : Nat) (l : List Int) (tp : Int) : Mc := .see ⟨-1, nw0 (KC.bd 0 (n % 2)), v, 0⟩ (n + 1) v l tp
/-- A step of the machine that a hand has. -/
def mstep (B Q : Nat) (a : Ac) (m : Mc) (u : Wl) : Option Mc × Wl :=
  match m with
  | .read r =>
    if (r.step KC B u.g).1.pc = 2 then (none, { u with g := (r.step KC B u.g).2, done := u.done ++ [⟨(r.step KC B u.g).1.point, true, a, (r.step KC B u.g).1.val, false⟩] })
    else (some (.read (r.step KC B u.g).1), { u with g := (r.step KC B u.g).2 })
  | .lay l =>
    if (l.step KC B Q u.g).1.pc = 6 then (none, { u with g := (l.step KC B Q u.g).2, done := u.done ++ [⟨(l.step KC B Q u.g).1.point, !(l.step KC B Q u.g).1.laid, a, 0, (l.step KC B Q u.g).1.laid⟩] })
    else (some (.lay (l.step KC B Q u.g).1), { u with g := (l.step KC B Q u.g).2 })
  | .turn t =>
    if (t.step u.g).1.pc = 2 then (some (seeM 0 (t.step u.g).1.view [] (t.step u.g).1.point), { u with g := (t.step u.g).2 })
    else (some (.turn (t.step u.g).1), { u with g := (t.step u.g).2 })
  | .see s n v l tp =>
    if (s.step KC B u.g).1.pc = 4 then
      if n = 4 then (none, { u with g := (s.step KC B u.g).2, done := u.done ++ four tp (l ++ [(s.step KC B u.g).1.val]) })
      else (some (seeM n v (l ++ [(s.step KC B u.g).1.val]) tp), { u with g := (s.step KC B u.g).2 })
    else (some (.see (s.step KC B u.g).1 n v l tp), { u with g := (s.step KC B u.g).2 })
/-- Behind a step: too many touches are bad. -/
def fin (a : Ac) (acts : List Ac) (T : Int) (x : Option Mc × Wl) : Hn × Wl :=
  (⟨acts, x.1.map fun m => (a, m)⟩, { x.2 with bad := x.2.bad || decide (T + 1 < x.2.g.T) })
def Hn.step (B Q : Nat) (h : Hn) (u : Wl) : Hn × Wl :=
  match h.cur with
  | some (a, m) => fin a h.acts u.g.T (mstep B Q a m u)
  | none =>
    match h.acts with
    | [] => (h, u)
    | a :: r => fin (a.norm u.next) r (beg (a.norm u.next) u).2.g.T (mstep B Q (a.norm u.next) (beg (a.norm u.next) u).1 (beg (a.norm u.next) u).2)

/-! Are all things that were done right, by their points? -/
def better (x y : Dn) : Bool := decide (x.point < y.point) || (decide (x.point = y.point) && !x.behind && y.behind)
def dn0 : Dn := ⟨0, false, ⟨0, 0, 0, 0⟩, 0, false⟩
/-- The best of the first i that are not used; -1: none. -/
def sel (ds : List Dn) (used : List Bool) : Nat → Int
  | 0 => -1
  | i + 1 => if used.getD i false = true then sel ds used i else if sel ds used i < 0 ∨ better (ds.getD i dn0) (ds.getD (sel ds used i).toNat dn0) = true then (i : Int) else sel ds used i
structure Rgt where
  used : List Bool
  now : List Int
  last : Int
/-- One of them; none: it isn't right. -/
def Rgt.one (t : Rgt) (x : Dn) : Option (List Int) :=
  if x.point < t.last then none
  else if x.act.kind = 0 ∨ x.act.kind = 3 then (if x.val ≠ t.now.getD x.act.fld.toNat 0 then none else some t.now)
  else if x.act.kind = 1 ∧ x.laid = false then none
  else if x.act.kind = 2 ∧ x.laid ≠ decide (t.now.getD x.act.fld.toNat 0 = sl x.act.expect) then none
  else if x.laid = true then some (t.now.set x.act.fld.toNat (sl x.act.val))
  else some t.now
def Rgt.next (ds : List Dn) (t : Rgt) : Option Rgt :=
  match t.one (ds.getD (sel ds t.used ds.length).toNat dn0) with
  | none => none
  | some l => some ⟨t.used.set (sel ds t.used ds.length).toNat true, l, (ds.getD (sel ds t.used ds.length).toNat dn0).point⟩
def Rgt.run (ds : List Dn) : Nat → Option Rgt
  | 0 => some ⟨List.replicate ds.length false, [-1, -1], -1⟩
  | n + 1 => (Rgt.run ds n).bind (Rgt.next ds)
def rightF (ds : List Dn) : Bool := (Rgt.run ds ds.length).isSome
end Go.Proofs.YtnegdabcjnhpdaaGreatDoor
/- Small functions of the laws, and what the laws begin with. -/
namespace Go.Proofs.YtnegdabcjnhpdaaGreatDoor
open Go.RowKit
open Mm (IsMem IsWords MS touched Only zeroMS)
open Hh (WT wordOf IsHd)
theorem pick_any (x : Int) {n : Int} (hn : 0 < n ∧ n < 100) (w : World) : Calls Tryz.prog 46 #[.int .i64 x, .int .i64 n] w fun e w' => e = .returned (.int .i64 (pk x n)) ∧ w = w' := by
  have h1 : IntKind.u64.wrap n = n := IntWalk.u64_in n (by omega)
  have h2 : 0 ≤ IntKind.u64.wrap x := by rw [IntKind.wrap_u64]; omega
  have h3 : wrap64 (IntKind.u64.wrap x % n) = pk x n := by
    have hb := pk_b x hn.1
    show wrap64 (pk x n) = _
    unfold wrap64
    omega
  go_enter Tryz.func46, Tryz.ntmps46
  go_wp2
  go_ret
  exact ⟨congrArg (fun z => Ending.returned (Value.int .i64 z)) h3, rfl⟩
set_option maxHeartbeats 1000000 in
theorem config_any (w : World) : Calls Tryz.prog 15 #[] w fun e w' => e = .returned (.agg KC.cs) ∧ Below w.heap.size w w' := by
  have bel := alloc_below w (.cells #[.int .i64 0, .int .i64 0, .int .i64 0, .int .i64 0, .int .i64 0, .int .i64 0] 30)
  have h2 : IsSix _ _ _ _ _ _ _ _ 30 := new_obj w (.cells #[.int .i64 0, .int .i64 0, .int .i64 0, .int .i64 0, .int .i64 0, .int .i64 0] 30)
  go_enter Tryz.func15, Tryz.ntmps15
  go_upto_region 1 with fail
  generalize (w.alloc (.cells #[.int .i64 0, .int .i64 0, .int .i64 0, .int .i64 0, .int .i64 0, .int .i64 0] 30)) = w2 at *
  obtain ⟨m0, m1, m2, m3, m4, m5⟩ := h2.cells
  have f0 := h2.free 0; have f1 := h2.free 1; have f2 := h2.free 2; have f3 := h2.free 3; have f4 := h2.free 4; have f5 := h2.free 5
  go_wp2
  obtain ⟨z0, z1, z2, z3, z4, z5⟩ := (h2.put (.int .i64 40) (.int .i64 3) (.int .i64 1) (.int .i64 1) (.int .i64 9) (.int .i64 0)).cells
  have bel9 := below_stored6 bel (Nat.le_refl w.heap.size) (.int .i64 40) (.int .i64 3) (.int .i64 1) (.int .i64 1) (.int .i64 9) (.int .i64 0)
  refine bodyPost_ret (v := .agg KC.cs) (by simp [results, Tryz.results15, go_sem, z0, z1, z2, z3, z4, z5, KC]) rfl ?_
  exact ⟨rfl, bel9⟩

def hdW (s : Nat) : Nat := if 4 < s then 2 else 97
def begX : Nat → List Nat
  | 0 => memX 1 1 3 208 39
  | j + 1 => (begX j).set (KC.hd j) (hdW j)
theorem begX_len (j : Nat) : (begX j).length = 208 := by
  induction j with
  | zero => exact memX_len _ _ _ _ _
  | succ j ih => show ((begX j).set _ _).length = _; rw [List.length_set]; exact ih
theorem begX_lt (j : Nat) : ∀ x ∈ begX j, x < 18446744073709551616 := by
  induction j with
  | zero => exact memX_lt 1 1 3 40 39 (by omega) (by omega)
  | succ j ih =>
    intro x hx
    rcases List.mem_or_eq_of_mem_set hx with h1 | h1
    · exact ih x h1
    · rw [h1]; unfold hdW; split <;> omega
/-- A law's world as it lies in a block. -/
def wlC (M B : Nat) (next : Int) (v : Value) (bad : Bool) : Array Value := #[.int .i64 40, .int .i64 3, .int .i64 1, .int .i64 1, .int .i64 9, .int .i64 0, .pointer (some ⟨M, 0, none⟩), .pointer (some ⟨B, 0, none⟩), .int .i64 next, v, .bool bad]
abbrev kcs : Array Value := #[.int .i64 40, .int .i64 3, .int .i64 1, .int .i64 1, .int .i64 9, .int .i64 0]
structure Bg (w wr : World) (C R : Nat) (X : List Nat) : Prop where
  ws : IsWords wr R X
  cfg : IsCfg wr C 40 3 1 1 9 0
  bel : Below w.heap.size w wr
  lt : w.heap.size ≤ C
  ne : C < R
theorem Bg.below {w wr w' : World} {C R : Nat} {X : List Nat} (h : Bg w wr C R X) (b : Below wr.heap.size wr w') : Bg w w' C R X := ⟨words_below h.ws b, h.cfg.below b, seq_below h.bel b, h.lt, h.ne⟩
theorem Bg.set {w wr : World} {C R : Nat} {X : List Nat} (h : Bg w wr C R X) (i W : Nat) : Bg w (wr.setCell ⟨R, i, none⟩ (.int .u64 (W : Nat))) C R (X.set i W) :=
  ⟨words_stored h.ws i W _ rfl, cfg_stored h.cfg (by have := h.ne; omega) _, h.bel.setCell (p := ⟨R, i, none⟩) (by have := h.lt; have := h.ne; show w.heap.size ≤ R; omega) _, h.lt, h.ne⟩
theorem Bg.other {w wr : World} {C R : Nat} {X : List Nat} (h : Bg w wr C R X) {P : Nat} (h1 : P ≠ C) (h2 : P ≠ R) (h3 : w.heap.size ≤ P) (i : Nat) (v : Value) : Bg w (wr.setCell ⟨P, i, none⟩ v) C R X :=
  ⟨(Below.heap_setCell wr ⟨P, i, none⟩ v R (Ne.symm h2)).trans h.ws, cfg_stored h.cfg (Ne.symm h1) _, h.bel.setCell (p := ⟨P, i, none⟩) h3 _, h.lt, h.ne⟩
theorem memx_of {w : World} {M G : Nat} {X : List Nat} (h : IsMem w M G (zeroMS X)) : MemX w M G X 0 := ⟨_, h, rfl, rfl⟩
theorem six_apart {w : World} {P R i : Nat} {v0 v1 v2 v3 v4 v5 : Value} {t : TypeId} (h : IsSix w P v0 v1 v2 v3 v4 v5 t) (hne : P ≠ R) (v : Value) : IsSix (w.setCell ⟨R, i, none⟩ v) P v0 v1 v2 v3 v4 v5 t :=
  (Below.heap_setCell w ⟨R, i, none⟩ v P hne).trans h
theorem hd_apart {w : World} {P R i : Nat} {k m : Int} {g : Bool} {a n s : Int} (h : IsHd w P k m g a n s) (hne : P ≠ R) (v : Value) : IsHd (w.setCell ⟨R, i, none⟩ v) P k m g a n s :=
  (Below.heap_setCell w ⟨R, i, none⟩ v P hne).trans h
/-- What the laws begin with. -/
def g0 : Gs := ⟨begX 40, 0, bk0⟩
structure Begun (w w' : World) (Wb M G B : Nat) : Prop where
  blk : w'.heap[Wb]? = some (.cells (wlC M B 5 (.slice none 0 0) false) 35 (0, 0))
  gw : GW w' w.heap.size M G B 208 g0
  ne : Wb ≠ M ∧ Wb ≠ G ∧ Wb ≠ B
  lo : w.heap.size ≤ Wb
  bel : Below w.heap.size w w'
set_option maxHeartbeats 8000000 in
theorem begin_any {w : World} (hw : WT w) : Calls Tryz.prog 5 #[] w fun e w' => ∃ Wb M G B, e = .returned (.pointer (some ⟨Wb, 0, none⟩)) ∧ Begun w w' Wb M G B := by
  have c1 : ∀ w, Calls Tryz.prog 15 #[] w fun e w' => e = .returned (.agg kcs) ∧ Below w.heap.size w w' := config_any
  obtain ⟨N, hN⟩ : ∃ N : Nat, Hid (208 = N) := ⟨208, rfl⟩
  have c2 : ∀ w, Calls Tryz.prog 16 #[.agg kcs] w fun e w' => ∃ R, e = .returned (.slice (some ⟨R, 0, none⟩) N N) ∧ IsWords w' R (begX 0) ∧ w.heap.size ≤ R ∧ Below w.heap.size w w' := fun w => by rw [← hN.out]; exact rmemory_any 1 1 40 3 3 9 0 (by decide) (by decide) (by decide) (by decide) (by decide) (by decide) w
  unfold kcs at c1 c2
  go_enter Tryz.func5, Tryz.ntmps5
  go_upto_region 2 with (go_at_call 15; with_reducible refine (c1 _).mono ?_; rintro e w1 ⟨rfl, b1⟩)
  have hh := cfg_new w1 40 3 1 1 9 0
  have b2 := seq_below b1 (alloc_below w1 (.cells #[.int .i64 40, .int .i64 3, .int .i64 1, .int .i64 1, .int .i64 9, .int .i64 0] 30))
  have hC := b1.size
  generalize w1.alloc (.cells #[.int .i64 40, .int .i64 3, .int .i64 1, .int .i64 1, .int .i64 9, .int .i64 0] 30) = w2 at *
  generalize w1.heap.size = C at *
  obtain ⟨l0, l1, l2, l3, l4, l5⟩ := hh.cells
  go_wp2_with (go_at_call 16; with_reducible refine (c2 _).mono ?_; rintro e w3 ⟨R, rfl, hX, hR, b3⟩; have hlt := hh.lt)
  have is : Bg w _ C R (begX 0) := ⟨hX, hh.below b3, seq_below b2 b3, hC, by omega⟩
  clear hX hR b3 hlt b2 hC l0 l1 l2 l3 l4 l5 hh b1 w1 c1 c2 w2
  go_loopw [3] (fun i wr => ∃ (j : Nat), j ≤ 40 ∧ i = .int .i64 j ∧ Bg w wr C R (begX j)) (fun i _ => 40 - (intOf i).toNat)
  case atStart => exact ⟨0, Nat.zero_le _, rfl, is⟩
  case round =>
    clear is
    obtain ⟨j, hj, rfl, is⟩ := hrel
    obtain ⟨l0, l1, l2, l3, l4, l5⟩ := is.cfg.cells
    by_cases hjS : j < 40
    · have hjI : (j : Int) < 40 := by omega
      have fin : (begX j).set (KC.hd j) (hdW j) = begX (j + 1) := rfl
      have cA := fun w => at_header hjS w
      replace cA : ∀ w, Calls Tryz.prog 11 #[.agg kcs, .string ⟨#[104, 101, 97, 100, 101, 114]⟩, .int .i64 (j : Nat), .int .i64 0] w fun e w' => e = .returned (.int .i64 (KC.hd j : Nat)) ∧ Below w.heap.size w w' := cA
      unfold kcs at cA
      have hl : KC.hd j < (begX j).length := by rw [begX_len, KC_hd]; omega
      have hl2 : KC.hd j < N := by rw [← hN.out, KC_hd]; omega
      have hcR : C ≠ R := by have := is.ne; omega
      have hRl : R < wr.heap.size := lt_of_block (show wr.heap[R]? = _ from is.ws)
      by_cases h4 : 4 < j
      · have h4I : (4 : Int) < (j : Int) := by omega
        have hW : hdW j = 2 := by unfold hdW; rw [if_pos h4]
        have c26 : ∀ w, Calls Tryz.prog 17 #[.agg #[.int .i64 2, .int .i64 0, .bool false, .int .i64 0, .int .i64 0, .int .i64 0]] w fun e w' => e = .returned (.int .u64 2) ∧ Below w.heap.size w w' := fun w => Hh.rpack_any 2 0 false 0 0 0 (by decide) (by decide) (by decide) (by decide) (by decide) w
        rw [hW] at fin
        have fin2 : ∀ wr, Bg w wr C R ((begX j).set (KC.hd j) 2) → Bg w wr C R (begX (j + 1)) := fun wr h => by rw [← fin]; exact h
        clear fin
        generalize begX j = X at *
        generalize KC.hd j = p at *
        clear hW hj
        have hd : IsHd (wr.alloc (.cells #[.int .i64 1, .int .i64 0, .bool false, .int .i64 3, .int .i64 0, .int .i64 0] 65)) wr.heap.size 1 0 false 3 0 0 := Hh.hd_new wr 1 0 false 3 0 0
        have b1 := alloc_below wr (.cells #[.int .i64 1, .int .i64 0, .bool false, .int .i64 3, .int .i64 0, .int .i64 0] 65)
        go_upto_region 8 with fail
        generalize wr.alloc (.cells #[.int .i64 1, .int .i64 0, .bool false, .int .i64 3, .int .i64 0, .int .i64 0] 65) = w1 at *
        have hPR : wr.heap.size ≠ R := by omega
        have hPC : wr.heap.size ≠ C := by have := is.ne; omega
        have hPl : w.heap.size ≤ wr.heap.size := is.bel.size
        replace is := is.below b1
        clear l0 l1 l2 l3 l4 l5 b1 hRl
        generalize wr.heap.size = P at *
        have h6 : IsSix w1 P (.int .i64 1) (.int .i64 0) (.bool false) (.int .i64 3) (.int .i64 0) (.int .i64 0) 65 := hd
        obtain ⟨m0, m1, m2, m3, m4, m5⟩ := h6.cells
        have f0 := h6.free 0; have f1 := h6.free 1; have f2 := h6.free 2; have f3 := h6.free 3; have f4 := h6.free 4; have f5 := h6.free 5
        go_upto_region 9 with fail
        have h7 := h6.put (.int .i64 2) (.int .i64 0) (.bool false) (.int .i64 0) (.int .i64 0) (.int .i64 0)
        have i7 := (((((is.other hPC hPR hPl 0 (.int .i64 2)).other hPC hPR hPl 1 (.int .i64 0)).other hPC hPR hPl 2 (.bool false)).other hPC hPR hPl 3 (.int .i64 0)).other hPC hPR hPl 4 (.int .i64 0)).other hPC hPR hPl 5 (.int .i64 0)
        clear m0 m1 m2 m3 m4 m5 f0 f1 f2 f3 f4 f5 h6 hd is
        generalize World.setCell _ _ _ = w2 at h7 i7 ⊢
        have is := i7.below (Below.refl _ _).drew
        have h8 := h7.below (Below.refl _ _).drew
        clear h7 i7
        have fz := words_free is.ws p
        obtain ⟨vj, qj⟩ := words_some is.ws p hl
        go_region_held (fun wq => (wq.cell? ⟨C, 0, none⟩ = some (.int .i64 40) ∧ wq.cell? ⟨C, 1, none⟩ = some (.int .i64 3) ∧ wq.cell? ⟨C, 2, none⟩ = some (.int .i64 1) ∧ wq.cell? ⟨C, 3, none⟩ = some (.int .i64 1) ∧ wq.cell? ⟨C, 4, none⟩ = some (.int .i64 9) ∧ wq.cell? ⟨C, 5, none⟩ = some (.int .i64 0)) ∧ (wq.cell? ⟨P, 0, none⟩ = some (.int .i64 2) ∧ wq.cell? ⟨P, 1, none⟩ = some (.int .i64 0) ∧ wq.cell? ⟨P, 2, none⟩ = some (.bool false) ∧ wq.cell? ⟨P, 3, none⟩ = some (.int .i64 0) ∧ wq.cell? ⟨P, 4, none⟩ = some (.int .i64 0) ∧ wq.cell? ⟨P, 5, none⟩ = some (.int .i64 0)))
          (first | with_reducible exact ⟨is.cfg.cells, h8.cells⟩ | with_reducible exact ⟨(cfg_stored is.cfg hcR _).cells, (six_apart h8 hPR _).cells⟩ | with_reducible exact ⟨((cfg_stored is.cfg hcR _).below (Below.refl _ _).drew).cells, ((six_apart h8 hPR _).below (Below.refl _ _).drew).cells⟩)
          (first
            | (go_at_call 11; with_reducible refine (cA _).mono ?_; rintro r w4 ⟨rfl, hb⟩; replace is := is.below hb; replace h8 := h8.below hb; have fz := words_free is.ws p; obtain ⟨vj, qj⟩ := words_some is.ws p hl)
            | (go_at_call 17; with_reducible refine (c26 _).mono ?_; rintro r w4 ⟨rfl, hb⟩; replace is := is.below hb; replace h8 := h8.below hb; have fz := words_free is.ws p; obtain ⟨vj, qj⟩ := words_some is.ws p hl))
        all_goals
          go_wp2
          go_roundw
          case rel => exact ⟨j + 1, by omega, by go_num, fin2 _ (is.set p 2)⟩
          case measure => simp [intOf]; omega
      · have h4I : ¬ (4 : Int) < (j : Int) := by omega
        have hW : hdW j = 97 := by unfold hdW; rw [if_neg h4]
        have c26 : ∀ w, Calls Tryz.prog 17 #[.agg #[.int .i64 1, .int .i64 0, .bool false, .int .i64 3, .int .i64 0, .int .i64 0]] w fun e w' => e = .returned (.int .u64 97) ∧ Below w.heap.size w w' := fun w => Hh.rpack_any 1 0 false 3 0 0 (by decide) (by decide) (by decide) (by decide) (by decide) w
        rw [hW] at fin
        have fin2 : ∀ wr, Bg w wr C R ((begX j).set (KC.hd j) 97) → Bg w wr C R (begX (j + 1)) := fun wr h => by rw [← fin]; exact h
        clear fin
        generalize begX j = X at *
        generalize KC.hd j = p at *
        clear hW hj
        have hd : IsHd (wr.alloc (.cells #[.int .i64 1, .int .i64 0, .bool false, .int .i64 3, .int .i64 0, .int .i64 0] 65)) wr.heap.size 1 0 false 3 0 0 := Hh.hd_new wr 1 0 false 3 0 0
        have b1 := alloc_below wr (.cells #[.int .i64 1, .int .i64 0, .bool false, .int .i64 3, .int .i64 0, .int .i64 0] 65)
        go_upto_region 9 with fail
        generalize wr.alloc (.cells #[.int .i64 1, .int .i64 0, .bool false, .int .i64 3, .int .i64 0, .int .i64 0] 65) = w1 at *
        have hPR : wr.heap.size ≠ R := by omega
        have hPC : wr.heap.size ≠ C := by have := is.ne; omega
        have hPl : w.heap.size ≤ wr.heap.size := is.bel.size
        replace is := is.below b1
        clear l0 l1 l2 l3 l4 l5 b1 hRl
        generalize wr.heap.size = P at *
        have h6 : IsSix w1 P (.int .i64 1) (.int .i64 0) (.bool false) (.int .i64 3) (.int .i64 0) (.int .i64 0) 65 := hd
        replace is := is.below (Below.refl _ _).drew
        have h8 := h6.below (Below.refl _ _).drew
        clear h6 hd
        have fz := words_free is.ws p
        obtain ⟨vj, qj⟩ := words_some is.ws p hl
        go_region_held (fun wq => (wq.cell? ⟨C, 0, none⟩ = some (.int .i64 40) ∧ wq.cell? ⟨C, 1, none⟩ = some (.int .i64 3) ∧ wq.cell? ⟨C, 2, none⟩ = some (.int .i64 1) ∧ wq.cell? ⟨C, 3, none⟩ = some (.int .i64 1) ∧ wq.cell? ⟨C, 4, none⟩ = some (.int .i64 9) ∧ wq.cell? ⟨C, 5, none⟩ = some (.int .i64 0)) ∧ (wq.cell? ⟨P, 0, none⟩ = some (.int .i64 1) ∧ wq.cell? ⟨P, 1, none⟩ = some (.int .i64 0) ∧ wq.cell? ⟨P, 2, none⟩ = some (.bool false) ∧ wq.cell? ⟨P, 3, none⟩ = some (.int .i64 3) ∧ wq.cell? ⟨P, 4, none⟩ = some (.int .i64 0) ∧ wq.cell? ⟨P, 5, none⟩ = some (.int .i64 0)))
          (first | with_reducible exact ⟨is.cfg.cells, h8.cells⟩ | with_reducible exact ⟨(cfg_stored is.cfg hcR _).cells, (six_apart h8 hPR _).cells⟩ | with_reducible exact ⟨((cfg_stored is.cfg hcR _).below (Below.refl _ _).drew).cells, ((six_apart h8 hPR _).below (Below.refl _ _).drew).cells⟩)
          (first
            | (go_at_call 11; with_reducible refine (cA _).mono ?_; rintro r w4 ⟨rfl, hb⟩; replace is := is.below hb; replace h8 := h8.below hb; have fz := words_free is.ws p; obtain ⟨vj, qj⟩ := words_some is.ws p hl)
            | (go_at_call 17; with_reducible refine (c26 _).mono ?_; rintro r w4 ⟨rfl, hb⟩; replace is := is.below hb; replace h8 := h8.below hb; have fz := words_free is.ws p; obtain ⟨vj, qj⟩ := words_some is.ws p hl))
        all_goals
          go_wp2
          go_roundw
          case rel => exact ⟨j + 1, by omega, by go_num, fin2 _ (is.set p 97)⟩
          case measure => simp [intOf]; omega
    · have hjI : ¬ (j : Int) < 40 := by omega
      obtain rfl : j = 40 := by omega
      have cO : ∀ wr, Bg w wr C R (begX 40) → Calls Tryz.prog 18 #[.slice (some ⟨R, 0, none⟩) N N] wr fun e w' => ∃ M G, e = .returned (.pointer (some ⟨M, 0, none⟩)) ∧ IsMem w' M G (zeroMS (begX 40)) ∧ wr.heap.size ≤ M ∧ wr.heap.size ≤ G ∧ Below wr.heap.size wr w' := fun wr x => of_n x.ws (begX_lt 40) (by rw [begX_len]; exact hN.out) (by rw [← hN.out]; omega)
      have cB := fun wr => newBook_any wr w.heap.size
      clear hj hjS
      generalize hXe : begX 40 = X at *
      replace hXe : Hid (begX 40 = X) := hXe
      have hb := alloc_below
      go_upto_region 10 with fail
      clear l0 l1 l2 l3 l4 l5
      replace is := is.below (Below.refl _ _).drew
      go_region_held (fun wq => (wq.cell? ⟨C, 0, none⟩ = some (.int .i64 40) ∧ wq.cell? ⟨C, 1, none⟩ = some (.int .i64 3) ∧ wq.cell? ⟨C, 2, none⟩ = some (.int .i64 1) ∧ wq.cell? ⟨C, 3, none⟩ = some (.int .i64 1) ∧ wq.cell? ⟨C, 4, none⟩ = some (.int .i64 9) ∧ wq.cell? ⟨C, 5, none⟩ = some (.int .i64 0)))
        (first | with_reducible exact is.cfg.cells | with_reducible exact (is.below (alloc_below _ _)).cfg.cells)
        (first
          | (go_at_call 18; with_reducible refine (cO _ is).mono ?_; rintro r w4 ⟨M, G, rfl, hm, hM, hG, hb4⟩; have hz4 := is.bel.size; replace is := is.below hb4)
          | (go_at_call 19; with_reducible refine (cB _).mono ?_; rintro r w5 ⟨B, rfl, hk, hB, hb5⟩; have hz5 := (memx_of hm).lt; replace is := is.below hb5; have hm5 := (memx_of hm).below hb5))
      go_wp2
      go_ret
      have bz := alloc_below w5 (.cells (wlC M B 5 (.slice none 0 0) false) 35)
      have hl5 := hm5.lt
      have hkl := hk.lt
      have hw6 := hw.below (seq_below is.bel bz)
      have hw0 := hw.lt
      have hz6 := is.bel.size
      refine ⟨w5.heap.size, M, G, B, rfl, new_obj w5 _, ⟨?_, ⟨_, _, hk.below bz⟩, hw6, begX_len 40, by show (0 : Int) ≤ 0 ∧ (0 : Int) < _; omega, by show _ < (0 : Int) ∧ (0 : Int) < _; omega, by omega, by omega, by omega, by omega, by omega, ?_⟩, by omega, hz6, seq_below is.bel bz⟩
      · have := hm5.below bz
        rw [← hXe.out] at this
        exact this
      · exact Nat.le_trans hz6 bz.size
end Go.Proofs.YtnegdabcjnhpdaaGreatDoor
/- Contracts of package field's machines as they are made. -/
namespace Go.Proofs.YtnegdabcjnhpdaaGreatDoor
open Go.RowKit
open Mm (IsMem MS touched Only)
open Hh (WT fen fen_any)

/-- A block of cells. -/
def Blk (w : World) (R : Nat) (c : Array Value) (t : TypeId) : Prop := w.heap[R]? = some (.cells c t (0, 0))
theorem Blk.cell {w : World} {R : Nat} {c : Array Value} {t : TypeId} (h : Blk w R c t) {i : Nat} {v : Value} (hi : c[i]? = some v) : w.cell? ⟨R, i, none⟩ = some v := by
  have h' : w.heap[R]? = _ := h
  unfold World.cell?
  simp only [h']
  exact hi
theorem Blk.free {w : World} {R : Nat} {c : Array Value} {t : TypeId} (h : Blk w R c t) (i : Nat) : w.frozen? ⟨R, i, none⟩ = false := by
  have h' : w.heap[R]? = _ := h
  simp [World.frozen?, h']
theorem Blk.below {w w' : World} {R : Nat} {c : Array Value} {t : TypeId} (h : Blk w R c t) (b : Below w.heap.size w w') : Blk w' R c t := (b.block R (lt_of_block h)).trans h
theorem Blk.set {w : World} {R : Nat} {c : Array Value} {t : TypeId} (h : Blk w R c t) (i : Nat) (v : Value) : Blk (w.setCell ⟨R, i, none⟩ v) R (c.setIfInBounds i v) t := Mm.heap_setCell_at h v
def nw18 (s a c d g k F : Int) (B : Nat) : Array Value := #[(.int .i64 s), (.int .i64 a), (.int .i64 c), (.int .i64 d), (.int .i64 g), (.int .i64 k), (.pointer (some ⟨B, 0, none⟩)), (.int .i64 F), (.int .u64 0), (.int .i64 0), (.int .i64 (-1)), (.pointer none), (.int .i64 0), (.int .i64 0), (.int .i64 0), (.int .u64 0), (.int .i64 0), (.bool false)]
def nwV (s a c d g k F : Int) (B : Nat) : Value := .agg #[(.int .i64 s), (.int .i64 a), (.int .i64 c), (.int .i64 d), (.int .i64 g), (.int .i64 k), (.pointer (some ⟨B, 0, none⟩)), (.int .i64 F), (.int .u64 0), (.int .i64 0), (.int .i64 (-1)), (.pointer none), (.int .i64 0), (.int .i64 0), (.int .i64 0), (.int .u64 0), (.int .i64 0), (.bool false)]
set_option maxHeartbeats 4000000 in
theorem Blk.put18 {w : World} {R : Nat} {t : TypeId} (h : Blk w R #[(.int .i64 0), (.int .i64 0), (.int .i64 0), (.int .i64 0), (.int .i64 0), (.int .i64 0), (.pointer none), (.int .i64 0), (.int .u64 0), (.int .i64 0), (.int .i64 0), (.pointer none), (.int .i64 0), (.int .i64 0), (.int .i64 0), (.int .u64 0), (.int .i64 0), (.bool false)] t) (s a c d g k F : Int) (B : Nat) : Blk ((((((((((((((((((w.setCell ⟨R, 0, none⟩ (.int .i64 s)).setCell ⟨R, 1, none⟩ (.int .i64 a)).setCell ⟨R, 2, none⟩ (.int .i64 c)).setCell ⟨R, 3, none⟩ (.int .i64 d)).setCell ⟨R, 4, none⟩ (.int .i64 g)).setCell ⟨R, 5, none⟩ (.int .i64 k)).setCell ⟨R, 6, none⟩ (.pointer (some ⟨B, 0, none⟩))).setCell ⟨R, 7, none⟩ (.int .i64 F)).setCell ⟨R, 8, none⟩ (.int .u64 0)).setCell ⟨R, 9, none⟩ (.int .i64 0)).setCell ⟨R, 10, none⟩ (.int .i64 (-1))).setCell ⟨R, 11, none⟩ (.pointer none)).setCell ⟨R, 12, none⟩ (.int .i64 0)).setCell ⟨R, 13, none⟩ (.int .i64 0)).setCell ⟨R, 14, none⟩ (.int .i64 0)).setCell ⟨R, 15, none⟩ (.int .u64 0)).setCell ⟨R, 16, none⟩ (.int .i64 0)).setCell ⟨R, 17, none⟩ (.bool false)) R (nw18 s a c d g k F B) t := by
  refine Eq.trans (Blk.set (Blk.set (Blk.set (Blk.set (Blk.set (Blk.set (Blk.set (Blk.set (Blk.set (Blk.set (Blk.set (Blk.set (Blk.set (Blk.set (Blk.set (Blk.set (Blk.set (Blk.set h 0 (.int .i64 s)) 1 (.int .i64 a)) 2 (.int .i64 c)) 3 (.int .i64 d)) 4 (.int .i64 g)) 5 (.int .i64 k)) 6 (.pointer (some ⟨B, 0, none⟩))) 7 (.int .i64 F)) 8 (.int .u64 0)) 9 (.int .i64 0)) 10 (.int .i64 (-1))) 11 (.pointer none)) 12 (.int .i64 0)) 13 (.int .i64 0)) 14 (.int .i64 0)) 15 (.int .u64 0)) 16 (.int .i64 0)) 17 (.bool false)) ?_
  simp [nw18]
theorem below_put18 {b : Nat} {w0 w : World} {R : Nat} (h : Below b w0 w) (hR : b ≤ R) (s a c d g k F : Int) (B : Nat) : Below b w0 ((((((((((((((((((w.setCell ⟨R, 0, none⟩ (.int .i64 s)).setCell ⟨R, 1, none⟩ (.int .i64 a)).setCell ⟨R, 2, none⟩ (.int .i64 c)).setCell ⟨R, 3, none⟩ (.int .i64 d)).setCell ⟨R, 4, none⟩ (.int .i64 g)).setCell ⟨R, 5, none⟩ (.int .i64 k)).setCell ⟨R, 6, none⟩ (.pointer (some ⟨B, 0, none⟩))).setCell ⟨R, 7, none⟩ (.int .i64 F)).setCell ⟨R, 8, none⟩ (.int .u64 0)).setCell ⟨R, 9, none⟩ (.int .i64 0)).setCell ⟨R, 10, none⟩ (.int .i64 (-1))).setCell ⟨R, 11, none⟩ (.pointer none)).setCell ⟨R, 12, none⟩ (.int .i64 0)).setCell ⟨R, 13, none⟩ (.int .i64 0)).setCell ⟨R, 14, none⟩ (.int .i64 0)).setCell ⟨R, 15, none⟩ (.int .u64 0)).setCell ⟨R, 16, none⟩ (.int .i64 0)).setCell ⟨R, 17, none⟩ (.bool false)) := (Below.setCell (Below.setCell (Below.setCell (Below.setCell (Below.setCell (Below.setCell (Below.setCell (Below.setCell (Below.setCell (Below.setCell (Below.setCell (Below.setCell (Below.setCell (Below.setCell (Below.setCell (Below.setCell (Below.setCell (Below.setCell h (p := ⟨R, 0, none⟩) hR (.int .i64 s)) (p := ⟨R, 1, none⟩) hR (.int .i64 a)) (p := ⟨R, 2, none⟩) hR (.int .i64 c)) (p := ⟨R, 3, none⟩) hR (.int .i64 d)) (p := ⟨R, 4, none⟩) hR (.int .i64 g)) (p := ⟨R, 5, none⟩) hR (.int .i64 k)) (p := ⟨R, 6, none⟩) hR (.pointer (some ⟨B, 0, none⟩))) (p := ⟨R, 7, none⟩) hR (.int .i64 F)) (p := ⟨R, 8, none⟩) hR (.int .u64 0)) (p := ⟨R, 9, none⟩) hR (.int .i64 0)) (p := ⟨R, 10, none⟩) hR (.int .i64 (-1))) (p := ⟨R, 11, none⟩) hR (.pointer none)) (p := ⟨R, 12, none⟩) hR (.int .i64 0)) (p := ⟨R, 13, none⟩) hR (.int .i64 0)) (p := ⟨R, 14, none⟩) hR (.int .i64 0)) (p := ⟨R, 15, none⟩) hR (.int .u64 0)) (p := ⟨R, 16, none⟩) hR (.int .i64 0)) (p := ⟨R, 17, none⟩) hR (.bool false))

end Go.Proofs.YtnegdabcjnhpdaaGreatDoor
/- A hand and a law's world as they lie in the heap. -/
namespace Go.Proofs.YtnegdabcjnhpdaaGreatDoor
open Go.RowKit
open Mm (IsMem MS touched Only)
open Hh (WT)

/-- Some blocks alone have changed, maps and rows of what was done from a block on; no act has; there may be new ones. -/
structure Cd (lo : Nat) (L : List Nat) (w w' : World) : Prop where
  os : w'.os = w.os
  tape : w'.tape = w.tape
  output : w'.output = w.output
  size : w.heap.size ≤ w'.heap.size
  block : ∀ i, i < w.heap.size → i ∉ L → (lo ≤ i → (∀ es c, w.heap[i]? ≠ some (.map es c)) ∧ ∀ c f, w.heap[i]? ≠ some (.cells c 61 f)) → w'.heap[i]? = w.heap[i]?
  acts : ∀ (i : Nat) (c : Array Value) (f : Nat × Nat), w.heap[i]? = some (.cells c 51 f) → w'.heap[i]? = w.heap[i]?
theorem Cd.refl (lo : Nat) (L : List Nat) (w : World) : Cd lo L w w := ⟨rfl, rfl, rfl, Nat.le_refl _, fun _ _ _ _ => rfl, fun _ _ _ _ => rfl⟩
theorem Cd.trans {lo : Nat} {L : List Nat} {a b c : World} (h : Cd lo L a b) (k : Cd lo L b c) : Cd lo L a c :=
  ⟨k.os.trans h.os, k.tape.trans h.tape, k.output.trans h.output, Nat.le_trans h.size k.size, fun i hi hn hm => by
    have e := h.block i hi hn hm
    rw [k.block i (Nat.lt_of_lt_of_le hi h.size) hn (fun hl => by rw [e]; exact hm hl), e], fun i c f hi => by
    have e := h.acts i c f hi
    rw [k.acts i c f (by rw [e]; exact hi), e]⟩
theorem Cd.of_cm {lo : Nat} {L : List Nat} {w w' : World} (h : Cm lo L w w') (hL : ∀ i ∈ L, ∀ c f, w.heap[i]? ≠ some (.cells c 51 f)) : Cd lo L w w' :=
  ⟨h.os, h.tape, h.output, h.size, fun i hi hn hm => h.block i hi hn (fun hl => (hm hl).1), fun i c f hi =>
    h.block i (lt_of_block hi) (fun hx => hL i hx c f hi) (fun _ es c' => by rw [hi]; simp)⟩
theorem Cd.of_chg {lo : Nat} {L : List Nat} {w w' : World} (h : Chg L w w') (hL : ∀ i ∈ L, ∀ c f, w.heap[i]? ≠ some (.cells c 51 f)) : Cd lo L w w' := Cd.of_cm (Cm.of_chg h) hL
theorem Cd.of_below {lo : Nat} {L : List Nat} {w w' : World} (h : Below w.heap.size w w') : Cd lo L w w' :=
  ⟨h.os, h.tape, h.output, h.size, fun i hi _ _ => h.block i hi, fun i _ _ hi => h.block i (lt_of_block hi)⟩
theorem Cd.mono {lo : Nat} {L L' : List Nat} {a b : World} (h : Cd lo L a b) (hs : ∀ i ∈ L, i ∈ L' ∨ a.heap.size ≤ i) : Cd lo L' a b :=
  ⟨h.os, h.tape, h.output, h.size, fun i hi hn hm => h.block i hi (fun hx => by rcases hs i hx with h1 | h1 <;> first | exact hn h1 | omega) hm, h.acts⟩
theorem Cd.at {lo : Nat} {L : List Nat} {w w' : World} (h : Cd lo L w w') {i : Nat} {c : Array Value} {t : TypeId} {f : Nat × Nat} (ho : w.heap[i]? = some (.cells c t f)) (hn : i ∉ L) (ht : t ≠ 61) : w'.heap[i]? = some (.cells c t f) :=
  (h.block i (lt_of_block ho) hn (fun _ => ⟨fun es c' => by rw [ho]; simp, fun c' f' => by rw [ho]; intro e; cases e; exact ht rfl⟩)).trans ho
theorem Cd.below {lo : Nat} {L : List Nat} {B : Nat} {w0 w w' : World} (h : Cd lo L w w') (h0 : Below B w0 w) (hL : ∀ i ∈ L, B ≤ i) (hlo : B ≤ lo) (hB : B ≤ w0.heap.size) : Below B w0 w' :=
  h0.trans ⟨h.os, h.tape, h.output, h.size, fun i hi => h.block i (Nat.lt_of_lt_of_le hi (Nat.le_trans hB h0.size)) (fun hm => by have := hL i hm; omega) (fun hl => by omega)⟩

def dnC (x : Dn) : List Value := [.int .i64 x.point, .bool x.behind, .int .i64 x.act.kind, .int .i64 x.act.fld, .int .i64 x.act.val, .int .i64 x.act.expect, .int .i64 x.val, .bool x.laid]
def dnR (l : List Dn) : List Value := l.flatMap dnC
theorem dnR_len (l : List Dn) : (dnR l).length = l.length * 8 := by
  induction l with
  | nil => rfl
  | cons a l ih =>
    show (dnC a ++ dnR l).length = _
    rw [List.length_append, ih]
    show 8 + l.length * 8 = (l.length + 1) * 8
    omega
theorem dnR_append (l k : List Dn) : dnR (l ++ k) = dnR l ++ dnR k := by simp [dnR]
def acC (a : Ac) : Array Value := #[.int .i64 a.kind, .int .i64 a.fld, .int .i64 a.val, .int .i64 a.expect]

/-- A law's world in the heap. -/
structure Wt (w : World) (lo Wb M G B : Nat) (u : Wl) (v : Value) : Prop where
  gw : GW w lo M G B KC.N u.g
  blk : w.heap[Wb]? = some (.cells (wlC M B u.next v u.bad) 35 (0, 0))
  row : w.ownsRow lo 61 8 v u.done.length (dnR u.done)
  ne : Wb ≠ M ∧ Wb ≠ G ∧ Wb ≠ B
  lo : lo ≤ Wb
/-- Acts in a slice that is only read. -/
def ActsAt (w : World) (lo : Nat) (va : Value) (acts : List Ac) : Prop := ∃ ad cap, va = .slice ad acts.length cap ∧ acts.length ≤ cap ∧ cap < 9223372036854775808 ∧
  ∀ i, i < acts.length → ∃ b off, ad = some ⟨b, off, none⟩ ∧ (b < lo ∧ b < w.heap.size ∨ ∃ c f, w.heap[b]? = some (.cells c 51 f)) ∧ ∃ a, acts[i]? = some a ∧
    w.cell? ⟨b, off + i * 4, none⟩ = some (.int .i64 a.kind) ∧ w.cell? ⟨b, off + i * 4 + 1, none⟩ = some (.int .i64 a.fld) ∧ w.cell? ⟨b, off + i * 4 + 2, none⟩ = some (.int .i64 a.val) ∧ w.cell? ⟨b, off + i * 4 + 3, none⟩ = some (.int .i64 a.expect)
theorem ActsAt.cd {w w' : World} {lo : Nat} {L : List Nat} {va : Value} {acts : List Ac} (h : ActsAt w lo va acts) (c : Cd lo L w w') (hL : ∀ i ∈ L, lo ≤ i) : ActsAt w' lo va acts := by
  obtain ⟨ad, cap, h1, h2, h3, h4⟩ := h
  refine ⟨ad, cap, h1, h2, h3, fun i hi => ?_⟩
  obtain ⟨b, off, k1, k2, a, k3, q0, q1, q2, q3⟩ := h4 i hi
  have e : w'.heap[b]? = w.heap[b]? := by
    rcases k2 with ⟨k, k'⟩ | ⟨cc, f, k⟩
    · exact c.block b k' (fun hx => by have := hL b hx; omega) (fun hx => by omega)
    · exact c.acts b cc f k
  refine ⟨b, off, k1, ?_, a, k3, ?_, ?_, ?_, ?_⟩
  · rcases k2 with ⟨k, k'⟩ | ⟨cc, f, k⟩
    · exact .inl ⟨k, Nat.lt_of_lt_of_le k' c.size⟩
    · exact .inr ⟨cc, f, e.trans k⟩
  all_goals rw [World.cell?_of_block (w := w) (w' := w') e]; assumption
/-- The machine that a hand has: its block, and those that it writes besides. -/
def McAt (w : World) (lo M G B : Nat) (C : Array Value) (o : Nat) (own : List Nat) : Mc → Prop
  | .read r => C[o + 5]? = some (.pointer none) ∧ C[o + 6]? = some (.int .i64 0) ∧ ∃ P c, C[o + 2]? = some (.pointer (some ⟨P, 0, none⟩)) ∧ own = [P] ∧ w.heap[P]? = some (.cells c 90 (0, 0)) ∧ RdAt c B KC r ∧ r.Ok KC B
  | .lay l => C[o + 5]? = some (.pointer none) ∧ C[o + 6]? = some (.int .i64 0) ∧ ∃ P c, C[o + 3]? = some (.pointer (some ⟨P, 0, none⟩)) ∧ own = P :: l.qs ∧ w.heap[P]? = some (.cells c 94 (0, 0)) ∧ LaAt c B KC l ∧ l.Ok KC B ∧ l.Sh w lo M G B P
  | .turn t => C[o + 5]? = some (.pointer none) ∧ C[o + 6]? = some (.int .i64 0) ∧ ∃ P c, C[o + 4]? = some (.pointer (some ⟨P, 0, none⟩)) ∧ own = [P] ∧ w.heap[P]? = some (.cells c 74 (0, 0)) ∧ TuAt c B t ∧ t.Ok
  | .see s n v l tp => C[o + 6]? = some (.int .i64 (n : Nat)) ∧ 1 ≤ n ∧ n ≤ 4 ∧ l.length + 1 = n ∧ C[o + 7]? = some (.int .u64 (v : Nat)) ∧ v < 18446744073709551616 ∧ C[o + 9]? = some (.int .i64 tp) ∧
      ∃ P c vr, C[o + 5]? = some (.pointer (some ⟨P, 0, none⟩)) ∧ w.heap[P]? = some (.cells c 115 (0, 0)) ∧ SeAt c B KC s ∧ s.Ok KC B ∧
        C[o + 8]? = some vr ∧ w.ownsRow lo 3 1 vr l.length (l.map fun x => .int .i64 x) ∧ own = P :: vr.ownBlock.toList
def Mc.kindOk (m : Mc) (k : Int) : Prop := match m with | .read _ => k = 0 | .lay _ => k = 1 ∨ k = 2 | .turn _ => k = 3 | .see _ _ _ _ _ => k = 3
structure HnAt (w : World) (lo Wb H M G B : Nat) (C : Array Value) (o : Nat) (own : List Nat) (h : Hn) : Prop where
  sz : o + 10 ≤ C.size
  acts : ∃ va, C[o]? = some va ∧ ActsAt w lo va h.acts
  idle : h.cur = none → C[o + 1]? = some (.pointer none) ∧ C[o + 5]? = some (.pointer none) ∧ C[o + 6]? = some (.int .i64 0) ∧ own = []
  busy : ∀ a m, h.cur = some (a, m) → ∃ A, C[o + 1]? = some (.pointer (some ⟨A, 0, none⟩)) ∧ w.heap[A]? = some (.cells (acC a) 51 (0, 0)) ∧ McAt w lo M G B C o own m ∧ m.kindOk a.kind
  own : ∀ i ∈ own, lo ≤ i ∧ i ≠ Wb ∧ i ≠ H ∧ i ≠ M ∧ i ≠ G ∧ i ≠ B

/-- The world within a hand's step. -/
structure Iw (w wr : World) (lo Wb H M G B : Nat) (g : Gs) (cw C : Array Value) : Prop where
  gw : GW wr lo M G B KC.N g
  wb : wr.heap[Wb]? = some (.cells cw 35 (0, 0))
  hb : wr.heap[H]? = some (.cells C 58 (0, 0))
  cd : Cd lo [Wb, H, M, G, B] w wr
  ne : Wb ≠ M ∧ Wb ≠ G ∧ Wb ≠ B ∧ H ≠ M ∧ H ≠ G ∧ H ≠ B ∧ H ≠ Wb
  lo : lo ≤ Wb ∧ lo ≤ H
  rows : ∀ (i : Nat) (c : Array Value) (f : Nat × Nat), w.heap[i]? = some (.cells c 61 f) → wr.heap[i]? = w.heap[i]?
theorem own_same {w w' : World} {base : Nat} {e : TypeId} {size : Nat} {v : Value} {n : Nat} {xs : List Value} (h : w.ownsRow base e size v n xs) (hb : ∀ (i : Nat) (c : Array Value) (f : Nat × Nat), w.heap[i]? = some (.cells c e f) → w'.heap[i]? = w.heap[i]?) : w'.ownsRow base e size v n xs := by
  refine ⟨h.1, ?_⟩
  rcases h.2 with hn | ⟨g, cap, cur, rfl, hb', hgg, rest⟩
  · exact .inl hn
  · exact .inr ⟨g, cap, cur, rfl, hb', (hb g cur (0, 0) hgg).trans hgg, rest⟩
theorem Iw.below {w wr w' : World} {lo Wb H M G B : Nat} {g : Gs} {cw C : Array Value} (h : Iw w wr lo Wb H M G B g cw C) (b : Below wr.heap.size wr w') : Iw w w' lo Wb H M G B g cw C :=
  ⟨h.gw.below b, (b.block Wb (lt_of_block h.wb)).trans h.wb, (b.block H (lt_of_block h.hb)).trans h.hb, h.cd.trans (Cd.of_below b), h.ne, h.lo, fun i c f hi => (b.block i (Nat.lt_of_lt_of_le (lt_of_block hi) h.cd.size)).trans (h.rows i c f hi)⟩
theorem Iw.drew {w wr : World} {lo Wb H M G B : Nat} {g : Gs} {cw C : Array Value} (h : Iw w wr lo Wb H M G B g cw C) : Iw w wr.drew lo Wb H M G B g cw C := h.below (Below.refl _ _).drew
theorem GW.no84 {w : World} {lo M G B N : Nat} {g : Gs} (h : GW w lo M G B N g) {i : Nat} (hi : i = M ∨ i = G ∨ i = B) (c : Array Value) (f : Nat × Nat) : w.heap[i]? ≠ some (.cells c 51 f) := by
  obtain ⟨m, hm, _⟩ := h.mem
  obtain ⟨mb, mt, hk⟩ := h.book
  rcases hi with rfl | rfl | rfl
  · rw [hm.head]; simp
  · rw [hm.row]; simp
  · rw [hk.head]; simp
theorem GW.no86 {w : World} {lo M G B N : Nat} {g : Gs} (h : GW w lo M G B N g) (i : Nat) (c : Array Value) (f : Nat × Nat) (hi : w.heap[i]? = some (.cells c 61 f)) : i ≠ M ∧ i ≠ G := by
  obtain ⟨m, hm, _⟩ := h.mem
  constructor
  · rintro rfl; rw [hm.head] at hi; cases hi
  · rintro rfl; rw [hm.row] at hi; cases hi
theorem Iw.no84 {w wr : World} {lo Wb H M G B : Nat} {g : Gs} {cw C : Array Value} (h : Iw w wr lo Wb H M G B g cw C) : ∀ i ∈ [Wb, H, M, G, B], ∀ c f, wr.heap[i]? ≠ some (.cells c 51 f) := fun i hi c f => by
  simp only [List.mem_cons, List.not_mem_nil, or_false] at hi
  rcases hi with rfl | rfl | hi
  · rw [h.wb]; simp
  · rw [h.hb]; simp
  · exact h.gw.no84 hi c f
theorem Iw.only {w wr w' : World} {lo Wb H M G B : Nat} {g g' : Gs} {cw C : Array Value} (h : Iw w wr lo Wb H M G B g cw C) (hg : GW w' lo M G B KC.N g') (o : Only M G wr w') : Iw w w' lo Wb H M G B g' cw C :=
  ⟨hg, (o.block Wb (lt_of_block h.wb) h.ne.1 h.ne.2.1).trans h.wb, (o.block H (lt_of_block h.hb) h.ne.2.2.2.1 h.ne.2.2.2.2.1).trans h.hb, h.cd.trans (Cd.of_chg (Chg.of_only o (by simp) (by simp)) h.no84), h.ne, h.lo, fun i c f hi => by
    have e := h.rows i c f hi
    have hx := h.gw.no86 i c f (e.trans hi)
    exact (o.block i (lt_of_block (e.trans hi)) hx.1 hx.2).trans e⟩
theorem Iw.setW {w wr : World} {lo Wb H M G B : Nat} {g : Gs} {cw C : Array Value} (h : Iw w wr lo Wb H M G B g cw C) (i : Nat) (v : Value) : Iw w (wr.setCell ⟨Wb, i, none⟩ v) lo Wb H M G B g (cw.setIfInBounds i v) C :=
  ⟨h.gw.set h.wb ⟨h.ne.1, h.ne.2.1, h.ne.2.2.1⟩ h.lo.1 v, Mm.heap_setCell_at h.wb v, (Below.heap_setCell wr ⟨Wb, i, none⟩ v H h.ne.2.2.2.2.2.2).trans h.hb, h.cd.trans (Cd.of_chg ((Chg.refl _ wr).setCell (by simp) v) h.no84), h.ne, h.lo, fun j c f hj => by
    have e := h.rows j c f hj
    exact (Below.heap_setCell wr ⟨Wb, i, none⟩ v j (fun x => by rw [x] at hj e; rw [hj] at e; rw [h.wb] at e; cases e)).trans e⟩
theorem Iw.setH {w wr : World} {lo Wb H M G B : Nat} {g : Gs} {cw C : Array Value} (h : Iw w wr lo Wb H M G B g cw C) (i : Nat) (v : Value) : Iw w (wr.setCell ⟨H, i, none⟩ v) lo Wb H M G B g cw (C.setIfInBounds i v) :=
  ⟨h.gw.set h.hb ⟨h.ne.2.2.2.1, h.ne.2.2.2.2.1, h.ne.2.2.2.2.2.1⟩ h.lo.2 v, (Below.heap_setCell wr ⟨H, i, none⟩ v Wb (Ne.symm h.ne.2.2.2.2.2.2)).trans h.wb, Mm.heap_setCell_at h.hb v, h.cd.trans (Cd.of_chg ((Chg.refl _ wr).setCell (by simp) v) h.no84), h.ne, h.lo, fun j c f hj => by
    have e := h.rows j c f hj
    exact (Below.heap_setCell wr ⟨H, i, none⟩ v j (fun x => by rw [x] at hj e; rw [hj] at e; rw [h.hb] at e; cases e)).trans e⟩
theorem Iw.cellW {w wr : World} {lo Wb H M G B : Nat} {g : Gs} {cw C : Array Value} (h : Iw w wr lo Wb H M G B g cw C) {i : Nat} {v : Value} (hi : cw[i]? = some v) : wr.cell? ⟨Wb, i, none⟩ = some v := by
  unfold World.cell?
  simp only [h.wb]
  exact hi
theorem Iw.cellH {w wr : World} {lo Wb H M G B : Nat} {g : Gs} {cw C : Array Value} (h : Iw w wr lo Wb H M G B g cw C) {i : Nat} {v : Value} (hi : C[i]? = some v) : wr.cell? ⟨H, i, none⟩ = some v := by
  unfold World.cell?
  simp only [h.hb]
  exact hi
theorem Iw.freeW {w wr : World} {lo Wb H M G B : Nat} {g : Gs} {cw C : Array Value} (h : Iw w wr lo Wb H M G B g cw C) (i : Nat) : wr.frozen? ⟨Wb, i, none⟩ = false := by
  have h' := h.wb
  simp [World.frozen?, h']
theorem Iw.freeH {w wr : World} {lo Wb H M G B : Nat} {g : Gs} {cw C : Array Value} (h : Iw w wr lo Wb H M G B g cw C) (i : Nat) : wr.frozen? ⟨H, i, none⟩ = false := by
  have h' := h.hb
  simp [World.frozen?, h']
theorem Cd.setNew {lo : Nat} {L : List Nat} {w wr : World} (h : Cd lo L w wr) {A : Nat} (hA : w.heap.size ≤ A) (i : Nat) (v : Value) : Cd lo L w (wr.setCell ⟨A, i, none⟩ v) := by
  have e : ∀ j, j < w.heap.size → (wr.setCell ⟨A, i, none⟩ v).heap[j]? = wr.heap[j]? := fun j hj => Below.heap_setCell wr ⟨A, i, none⟩ v j (by show j ≠ A; omega)
  have c : Chg [A] wr (wr.setCell ⟨A, i, none⟩ v) := (Chg.refl [A] wr).setCell (by simp) v
  exact ⟨c.os.trans h.os, c.tape.trans h.tape, c.output.trans h.output, Nat.le_trans h.size c.size, fun j hj hn hm => (e j hj).trans (h.block j hj hn hm), fun j c f hj => (e j (lt_of_block hj)).trans (h.acts j c f hj)⟩
/-- With an act in a block that was made now. -/
structure Ia (w wr : World) (lo Wb H M G B : Nat) (g : Gs) (cw C : Array Value) (A : Nat) (cA : Array Value) : Prop where
  is : Iw w wr lo Wb H M G B g cw C
  a : wr.heap[A]? = some (.cells cA 51 (0, 0))
  new : w.heap.size ≤ A
  ne : A ≠ Wb ∧ A ≠ H ∧ A ≠ M ∧ A ≠ G ∧ A ≠ B
  lo : lo ≤ A
section
variable {w wr : World} {lo Wb H M G B : Nat} {g : Gs} {cw C : Array Value} {A : Nat} {cA : Array Value}
theorem Ia.below {w' : World} (h : Ia w wr lo Wb H M G B g cw C A cA) (b : Below wr.heap.size wr w') : Ia w w' lo Wb H M G B g cw C A cA := ⟨h.is.below b, (b.block A (lt_of_block h.a)).trans h.a, h.new, h.ne, h.lo⟩
theorem Ia.drew (h : Ia w wr lo Wb H M G B g cw C A cA) : Ia w wr.drew lo Wb H M G B g cw C A cA := h.below (Below.refl _ _).drew
theorem Ia.setW (h : Ia w wr lo Wb H M G B g cw C A cA) (i : Nat) (v : Value) : Ia w (wr.setCell ⟨Wb, i, none⟩ v) lo Wb H M G B g (cw.setIfInBounds i v) C A cA := ⟨h.is.setW i v, (Below.heap_setCell wr ⟨Wb, i, none⟩ v A h.ne.1).trans h.a, h.new, h.ne, h.lo⟩
theorem Ia.setH (h : Ia w wr lo Wb H M G B g cw C A cA) (i : Nat) (v : Value) : Ia w (wr.setCell ⟨H, i, none⟩ v) lo Wb H M G B g cw (C.setIfInBounds i v) A cA := ⟨h.is.setH i v, (Below.heap_setCell wr ⟨H, i, none⟩ v A h.ne.2.1).trans h.a, h.new, h.ne, h.lo⟩
theorem Ia.setA (h : Ia w wr lo Wb H M G B g cw C A cA) (i : Nat) (v : Value) : Ia w (wr.setCell ⟨A, i, none⟩ v) lo Wb H M G B g cw C A (cA.setIfInBounds i v) :=
  ⟨⟨h.is.gw.set h.a ⟨h.ne.2.2.1, h.ne.2.2.2.1, h.ne.2.2.2.2⟩ h.lo v, (Below.heap_setCell wr ⟨A, i, none⟩ v Wb (Ne.symm h.ne.1)).trans h.is.wb, (Below.heap_setCell wr ⟨A, i, none⟩ v H (Ne.symm h.ne.2.1)).trans h.is.hb, h.is.cd.setNew h.new i v, h.is.ne, h.is.lo, fun j c f hj => (Below.heap_setCell wr ⟨A, i, none⟩ v j (by have := lt_of_block hj; have := h.new; show j ≠ A; omega)).trans (h.is.rows j c f hj)⟩, Mm.heap_setCell_at h.a v, h.new, h.ne, h.lo⟩
theorem Ia.only {w' : World} {g' : Gs} (h : Ia w wr lo Wb H M G B g cw C A cA) (hg : GW w' lo M G B KC.N g') (o : Only M G wr w') : Ia w w' lo Wb H M G B g' cw C A cA := ⟨h.is.only hg o, (o.block A (lt_of_block h.a) h.ne.2.2.1 h.ne.2.2.2.1).trans h.a, h.new, h.ne, h.lo⟩
theorem Ia.cellA (h : Ia w wr lo Wb H M G B g cw C A cA) {i : Nat} {v : Value} (hi : cA[i]? = some v) : wr.cell? ⟨A, i, none⟩ = some v := by
  unfold World.cell?
  simp only [h.a]
  exact hi
theorem Ia.freeA (h : Ia w wr lo Wb H M G B g cw C A cA) (i : Nat) : wr.frozen? ⟨A, i, none⟩ = false := by
  have h' := h.a
  simp [World.frozen?, h']
end
/-- An act has begun. -/
def Bgd (w w' : World) (lo Wb H M G B : Nat) (u : Wl) (v : Value) (C : Array Value) (o : Nat) (r : List Ac) (a : Ac) : Prop :=
  ∃ C' own', Wt w' lo Wb M G B (beg a u).2 v ∧ w'.heap[H]? = some (.cells C' 58 (0, 0)) ∧ Same C C' o (o + 9) ∧ HnAt w' lo Wb H M G B C' o own' ⟨r, some (a, (beg a u).1)⟩ ∧ Cd lo [Wb, H, M, G, B] w w' ∧ ∀ i ∈ own', w.heap.size ≤ i
theorem bgd_of {w w8 : World} {lo Wb H M G B : Nat} {u : Wl} {v : Value} {C C' : Array Value} {o A : Nat} {r : List Ac} {a : Ac} {g' : Gs} {next' : Nat} {vs : Value} {own' : List Nat} {mc : Mc}
    (ia : Ia w w8 lo Wb H M G B g' (wlC M B next' v u.bad) C' A (acC a)) (row : w.ownsRow lo 61 8 v u.done.length (dnR u.done)) (hs : Same C C' o (o + 9)) (hsz : o + 10 ≤ C.size)
    (h0 : C'[o]? = some vs) (hacts : ActsAt w lo vs r) (h1 : C'[o + 1]? = some (.pointer (some ⟨A, 0, none⟩))) (hu : beg a u = (mc, ⟨g', next', u.done, u.bad⟩)) (hm : McAt w8 lo M G B C' o own' mc)
    (hk : mc.kindOk a.kind) (ho : ∀ i ∈ own', w.heap.size ≤ i) (hlt : Wb < w.heap.size ∧ H < w.heap.size ∧ M < w.heap.size ∧ G < w.heap.size ∧ B < w.heap.size) (hlo : lo ≤ w.heap.size) :
    Bgd w w8 lo Wb H M G B u v C o r a := by
  unfold Bgd
  rw [hu]
  refine ⟨C', own', ⟨ia.is.gw, ia.is.wb, own_same row ia.is.rows, ⟨ia.is.ne.1, ia.is.ne.2.1, ia.is.ne.2.2.1⟩, ia.is.lo.1⟩, ia.is.hb, hs, ⟨by rw [hs.size]; exact hsz, ⟨vs, h0, hacts.cd ia.is.cd ?_⟩, (fun h => by cases h), (fun a' m' h => ?_), fun i hi => ?_⟩, ia.is.cd, ho⟩
  · intro i hi
    have := ia.is.lo
    have := ia.is.gw.lo1
    simp at hi
    rcases hi with rfl | rfl | rfl | rfl | rfl <;> omega
  · cases h
    exact ⟨A, h1, ia.a, hm, hk⟩
  · have := ho i hi
    omega
end Go.Proofs.YtnegdabcjnhpdaaGreatDoor
/- The world within a hand's step, the machine's blocks among those that may change. -/
namespace Go.Proofs.YtnegdabcjnhpdaaGreatDoor
open Go.RowKit
open Mm (IsMem MS touched Only)
open Hh (WT)

structure Ix (w wr : World) (lo Wb H M G B : Nat) (L : List Nat) (u : Wl) (v : Value) (C : Array Value) : Prop where
  t : Wt wr lo Wb M G B u v
  hb : wr.heap[H]? = some (.cells C 58 (0, 0))
  cd : Cd lo (Wb :: H :: M :: G :: B :: L) w wr
  ne : H ≠ M ∧ H ≠ G ∧ H ≠ B ∧ H ≠ Wb
  l : ∀ i ∈ L, lo ≤ i ∧ i ≠ Wb ∧ i ≠ H ∧ i ≠ M ∧ i ≠ G ∧ i ≠ B
  lo : lo ≤ H
section
variable {w wr w' : World} {lo Wb H M G B : Nat} {L : List Nat} {u : Wl} {v : Value} {C : Array Value}
theorem Wt.below (h : Wt wr lo Wb M G B u v) (b : Below wr.heap.size wr w') : Wt w' lo Wb M G B u v := ⟨h.gw.below b, (b.block Wb (lt_of_block h.blk)).trans h.blk, own_below h.row b, h.ne, h.lo⟩
theorem Ix.below (h : Ix w wr lo Wb H M G B L u v C) (b : Below wr.heap.size wr w') : Ix w w' lo Wb H M G B L u v C :=
  ⟨h.t.below b, (b.block H (lt_of_block h.hb)).trans h.hb, h.cd.trans (Cd.of_below b), h.ne, h.l, h.lo⟩
theorem Ix.drew (h : Ix w wr lo Wb H M G B L u v C) : Ix w wr.drew lo Wb H M G B L u v C := h.below (Below.refl _ _).drew
theorem Ix.cellW (h : Ix w wr lo Wb H M G B L u v C) {i : Nat} {x : Value} (hi : (wlC M B u.next v u.bad)[i]? = some x) : wr.cell? ⟨Wb, i, none⟩ = some x := by
  unfold World.cell?
  simp only [h.t.blk]
  exact hi
theorem Ix.cellH (h : Ix w wr lo Wb H M G B L u v C) {i : Nat} {x : Value} (hi : C[i]? = some x) : wr.cell? ⟨H, i, none⟩ = some x := by
  unfold World.cell?
  simp only [h.hb]
  exact hi
theorem Ix.freeW (h : Ix w wr lo Wb H M G B L u v C) (i : Nat) : wr.frozen? ⟨Wb, i, none⟩ = false := by
  have h' := h.t.blk
  simp [World.frozen?, h']
theorem Ix.freeH (h : Ix w wr lo Wb H M G B L u v C) (i : Nat) : wr.frozen? ⟨H, i, none⟩ = false := by
  have h' := h.hb
  simp [World.frozen?, h']
theorem row_far {n : Nat} {xs : List Value} (h : wr.ownsRow lo 61 8 v n xs) {i : Nat} {c : Array Value} {t : TypeId} {f : Nat × Nat} (hi : wr.heap[i]? = some (.cells c t f)) (ht : t ≠ 61) : some i ≠ v.ownBlock := fun e => by
  obtain ⟨_, ⟨rfl, _⟩ | ⟨g, cap, cur, rfl, _, h3, _⟩⟩ := h
  · simp [Value.ownBlock] at e
  · simp [Value.ownBlock] at e
    subst e
    rw [hi] at h3
    cases h3
    exact ht rfl
/-- A cell of the hand is stored. -/
theorem Ix.setH (h : Ix w wr lo Wb H M G B L u v C) (i : Nat) (x : Value) : Ix w (wr.setCell ⟨H, i, none⟩ x) lo Wb H M G B L u v (C.setIfInBounds i x) := by
  have c : Chg [H] wr (wr.setCell ⟨H, i, none⟩ x) := (Chg.refl [H] wr).setCell (by simp) x
  refine ⟨⟨h.t.gw.set h.hb ⟨h.ne.1, h.ne.2.1, h.ne.2.2.1⟩ h.lo x, c.at h.t.blk (by simp; exact Ne.symm h.ne.2.2.2), own_same h.t.row fun j cc f hj => c.block j (lt_of_block hj) (by simp; rintro rfl; rw [h.hb] at hj; cases hj), h.t.ne, h.t.lo⟩, Mm.heap_setCell_at h.hb x, h.cd.trans ((Cd.of_chg c (fun j hj cc f => ?_)).mono (by simp)), h.ne, h.l, h.lo⟩
  simp at hj
  subst hj
  rw [h.hb]; simp
/-- The law's world gets another mark. -/
theorem Ix.setBad (h : Ix w wr lo Wb H M G B L u v C) : Ix w (wr.setCell ⟨Wb, 10, none⟩ (.bool true)) lo Wb H M G B L { u with bad := true } v C := by
  have c : Chg [Wb] wr (wr.setCell ⟨Wb, 10, none⟩ (.bool true)) := (Chg.refl [Wb] wr).setCell (by simp) _
  refine ⟨⟨h.t.gw.set h.t.blk h.t.ne h.t.lo _, Mm.heap_setCell_at h.t.blk _, own_same h.t.row fun j cc f hj => c.block j (lt_of_block hj) (by simp; rintro rfl; rw [h.t.blk] at hj; cases hj), h.t.ne, h.t.lo⟩, c.at h.hb (by simp; exact h.ne.2.2.2), h.cd.trans ((Cd.of_chg c (fun j hj cc f => ?_)).mono (by simp)), h.ne, h.l, h.lo⟩
  simp at hj
  subst hj
  rw [h.t.blk]; simp
/-- The machine's blocks, the words and the book have turned. -/
theorem Ix.mach (h : Ix w wr lo Wb H M G B L u v C) {g' : Gs} {L' : List Nat} (hg : GW w' lo M G B KC.N g') (c : Cm lo (M :: G :: B :: L') wr w') (hL : ∀ i ∈ L', i ∈ L ∨ wr.heap.size ≤ i) (ht : ∀ i ∈ L', ∃ cc t, wr.heap[i]? = some (.cells cc t (0, 0)) ∧ t ≠ 51 ∧ t ≠ 61) : Ix w w' lo Wb H M G B L { u with g := g' } v C := by
  have hn : ∀ j cc f, wr.heap[j]? = some (.cells cc 61 f) → j ∉ M :: G :: B :: L' := fun j cc f hj hm => by
    simp only [List.mem_cons] at hm
    rcases hm with rfl | rfl | rfl | hm
    · exact (h.t.gw.no86 _ cc f hj).1 rfl
    · exact (h.t.gw.no86 _ cc f hj).2 rfl
    · obtain ⟨_, _, hk⟩ := h.t.gw.book
      rw [hk.head] at hj; cases hj
    · obtain ⟨c2, t, e1, _, e2⟩ := ht j hm
      rw [e1] at hj; cases hj; exact e2 rfl
  have hx : ∀ i, i = Wb ∨ i = H → i < wr.heap.size → i ∉ L' := fun i hi hlt hm => by
    rcases hL i hm with k | k
    · have := h.l i k
      rcases hi with rfl | rfl <;> omega
    · omega
  have b1 := lt_of_block h.t.blk
  have b2 := lt_of_block h.hb
  refine ⟨⟨hg, c.at h.t.blk (fun hm => ?_), own_same h.t.row fun j cc f hj => c.block j (lt_of_block hj) (hn j cc f hj) (fun _ es c' => by rw [hj]; simp), h.t.ne, h.t.lo⟩, c.at h.hb (fun hm => ?_), h.cd.trans ((Cd.of_cm c (fun j hj cc f => ?_)).mono (fun i hi => ?_)), h.ne, h.l, h.lo⟩
  · simp only [List.mem_cons] at hm
    have := h.t.ne
    rcases hm with k | k | k | k
    · omega
    · omega
    · omega
    · exact hx Wb (.inl rfl) b1 k
  · simp only [List.mem_cons] at hm
    have := h.ne
    rcases hm with k | k | k | k
    · omega
    · omega
    · omega
    · exact hx H (.inr rfl) b2 k
  · simp only [List.mem_cons] at hj
    rcases hj with k | k | k | k
    · exact h.t.gw.no84 (.inl k) cc f
    · exact h.t.gw.no84 (.inr (.inl k)) cc f
    · exact h.t.gw.no84 (.inr (.inr k)) cc f
    · obtain ⟨c2, t, e1, e2, _⟩ := ht j k
      rw [e1]; intro e; cases e; exact e2 rfl
  · simp only [List.mem_cons] at hi ⊢
    rcases hi with k | k | k | k
    · exact .inl (by simp [k])
    · exact .inl (by simp [k])
    · exact .inl (by simp [k])
    · rcases hL i k with q | q
      · exact .inl (by simp [q])
      · exact .inr q
/-- Something more was done. -/
theorem Ix.grown (h : Ix w wr lo Wb H M G B L u v C) {x : Dn} {o8 : Obj} {w2 : World} {g cap : Nat} (hg : (wr.alloc o8).grownBy w2 v.ownBlock)
    (hown : w2.ownsRow lo 61 8 (.slice (some ⟨g, 0, none⟩) (u.done.length + 1) cap) (u.done.length + 1) (dnR u.done ++ dnC x)) :
    Ix w (w2.setCell ⟨Wb, 9, none⟩ (.slice (some ⟨g, 0, none⟩) (u.done.length + 1) cap)) lo Wb H M G B L { u with done := u.done ++ [x] } (.slice (some ⟨g, 0, none⟩) (u.done.length + 1) cap) C := by
  have h1 := h.below (alloc_below wr o8)
  generalize wr.alloc o8 = w1 at *
  have c1 : Chg v.ownBlock.toList w1 w2 := ⟨hg.os, hg.tape, hg.output, hg.size, fun i hi hn => hg.block i hi fun e => hn (by rw [← e]; simp)⟩
  have far : ∀ {i : Nat} {c : Array Value} {t : TypeId} {f : Nat × Nat}, w1.heap[i]? = some (.cells c t f) → t ≠ 61 → i ∉ v.ownBlock.toList := fun hi ht hm => row_far h1.t.row hi ht (by simp at hm; exact hm.symm)
  have rowc : ∀ i, i ∈ v.ownBlock.toList → ∃ c, w1.heap[i]? = some (.cells c 61 (0, 0)) := fun i hi => by
    obtain ⟨_, ⟨rfl, _⟩ | ⟨g', cap', cur, rfl, _, h3, _⟩⟩ := h1.t.row
    · simp [Value.ownBlock] at hi
    · simp [Value.ownBlock] at hi
      subst hi
      exact ⟨cur, h3⟩
  have lo1 := h1.t.gw.lo1
  obtain ⟨m, hm, hmX, hmT⟩ := h1.t.gw.mem
  obtain ⟨mb, mt, hk⟩ := h1.t.gw.book
  have gw2 : GW w2 lo M G B KC.N u.g := by
    refine ⟨⟨m, ⟨c1.at hm.head (far hm.head (by decide)), c1.at hm.row (far hm.row (by decide)), hm.ne, hm.fits⟩, hmX, hmT⟩, ⟨mb, mt, hk.chg c1 (far hk.head (by decide)) fun i hi => ?_⟩, ?_, h1.t.gw.len, h1.t.gw.tb, h1.t.gw.now, h1.t.gw.ne, by have := c1.size; omega⟩
    · obtain ⟨c, e⟩ := rowc i hi
      exact .inr ⟨_, _, _, e⟩
    · refine WT.chg h1.t.gw.wt c1 fun h0 => ?_
      have := (h1.t.row.lt 0 (by simpa using h0)).1
      omega
  have hW := c1.at h1.t.blk (far h1.t.blk (by decide))
  have hH := c1.at h1.hb (far h1.hb (by decide))
  have cd2 : Cd lo (Wb :: H :: M :: G :: B :: L) w w2 := by
    refine h1.cd.trans ⟨c1.os, c1.tape, c1.output, c1.size, fun i hi _ hm => c1.block i hi fun hx => ?_, fun i c f hi => c1.block i (lt_of_block hi) (far hi (by decide))⟩
    obtain ⟨c, e⟩ := rowc i hx
    have := (h1.t.row.lt i (by simpa using hx)).1
    exact (hm this).2 c (0, 0) e
  have c3 : Chg [Wb] w2 (w2.setCell ⟨Wb, 9, none⟩ (.slice (some ⟨g, 0, none⟩) (u.done.length + 1) cap)) := (Chg.refl [Wb] w2).setCell (by simp) _
  refine ⟨⟨gw2.set hW h1.t.ne h1.t.lo _, Mm.heap_setCell_at hW _, ?_, h1.t.ne, h1.t.lo⟩, c3.at hH (by simp; exact h1.ne.2.2.2), cd2.trans ((Cd.of_chg c3 (fun j hj cc f => ?_)).mono (by simp)), h1.ne, h1.l, h1.lo⟩
  · have e : dnR (u.done ++ [x]) = dnR u.done ++ dnC x := by rw [dnR_append]; simp [dnR]
    show World.ownsRow _ lo 61 8 _ (u.done ++ [x]).length (dnR (u.done ++ [x]))
    rw [e, List.length_append]
    refine own_same hown fun j cc f hj => c3.block j (lt_of_block hj) ?_
    simp; rintro rfl; rw [hW] at hj; cases hj
  · simp at hj
    subst hj
    rw [hW]; simp
/-- A machine of one block: it goes a step. -/
theorem Ix.inF (h : Ix w wr lo Wb H M G B L u v C) {P : Nat} {c : Array Value} {t : TypeId} (hP : wr.heap[P]? = some (.cells c t (0, 0))) (hm : P ∈ L) : InF wr wr lo M G B KC.N u.g P c t := by
  have := h.l P hm
  exact InF.start h.t.gw hP ⟨this.2.2.2.1, this.2.2.2.2.1, this.2.2.2.2.2⟩ this.1
theorem Ix.stepped (h : Ix w wr lo Wb H M G B L u v C) {P : Nat} {c c' : Array Value} {t : TypeId} {g' : Gs} (hP : wr.heap[P]? = some (.cells c t (0, 0))) (hm : P ∈ L) (ht : t ≠ 51 ∧ t ≠ 61) (x : InF wr w' lo M G B KC.N g' P c' t) : Ix w w' lo Wb H M G B L { u with g := g' } v C :=
  h.mach x.gw (L' := [P]) (x.cm.mono (fun i hi => by simp at hi ⊢; rcases hi with k | k | k | k <;> simp [k])) (fun i hi => by simp at hi; rw [hi]; exact .inl hm) (fun i hi => by simp at hi; rw [hi]; exact ⟨c, t, hP, ht⟩)
end
end Go.Proofs.YtnegdabcjnhpdaaGreatDoor
/- Lemmas for a hand's step: what its machine leaves. -/
namespace Go.Proofs.YtnegdabcjnhpdaaGreatDoor
open Go.RowKit
open Mm (IsMem MS touched Only)
open Hh (WT)
theorem Sm.step_T (s : Sm) (g : Gs) : g.T ≤ (s.step g).2.T ∧ (s.step g).2.T ≤ g.T + 1 := by
  unfold Sm.step
  repeat' split
  all_goals (constructor <;> (try show _ ≤ _) <;> first | exact Int.le_refl _ | (show g.T ≤ g.T + 1; omega))
theorem Nw.find_T (n : Nw) (K : Cf) (B : Nat) (g : Gs) : g.T ≤ (n.find K B g).2.T ∧ (n.find K B g).2.T ≤ g.T + 1 := by
  unfold Nw.find
  split
  · exact Sm.step_T _ _
  · exact ⟨by show g.T ≤ g.T + 1; omega, Int.le_refl _⟩
theorem Rd.step_T (r : Rd) (K : Cf) (B : Nat) (g : Gs) : g.T ≤ (r.step K B g).2.T ∧ (r.step K B g).2.T ≤ g.T + 1 := by
  have h := r.n.find_T K B g
  unfold Rd.step
  repeat' split
  all_goals first | exact h | exact ⟨by show g.T ≤ g.T + 1; omega, Int.le_refl _⟩ | exact ⟨Int.le_refl _, by show g.T ≤ g.T + 1; omega⟩
theorem Se.step_T (r : Se) (K : Cf) (B : Nat) (g : Gs) : g.T ≤ (r.step K B g).2.T ∧ (r.step K B g).2.T ≤ g.T + 1 := by
  have h := r.n.find_T K B g
  unfold Se.step
  repeat' split
  all_goals first | exact h | exact ⟨by show g.T ≤ g.T + 1; omega, Int.le_refl _⟩ | exact ⟨Int.le_refl _, by show g.T ≤ g.T + 1; omega⟩
theorem Tu.step_T (r : Tu) (g : Gs) : g.T ≤ (r.step g).2.T ∧ (r.step g).2.T ≤ g.T + 1 := by
  unfold Tu.step Tu.swap
  repeat' split
  all_goals first | exact ⟨by show g.T ≤ g.T + 1; omega, Int.le_refl _⟩ | exact ⟨Int.le_refl _, by show g.T ≤ g.T + 1; omega⟩
theorem Sd.step_T (s : Sd) (e : Nat) (g : Gs) : g.T ≤ (s.step e g).2.T ∧ (s.step e g).2.T ≤ g.T + 1 := by
  have := (s.step_Q e g).2.2.1
  omega
theorem La.step_T (r : La) (K : Cf) (B Q : Nat) (g : Gs) : g.T ≤ (r.step K B Q g).2.T ∧ (r.step K B Q g).2.T ≤ g.T + 1 := by
  have h := r.n.find_T K B g
  have h2 := r.n.s.step_T g
  unfold La.step
  split
  · exact h
  split
  · exact ⟨by show g.T ≤ g.T + 1; omega, Int.le_refl _⟩
  split
  · exact ⟨by show g.T ≤ g.T + 1; omega, Int.le_refl _⟩
  split
  · split
    · exact Sd.step_T _ _ _
    · exact ⟨Int.le_refl _, by show g.T ≤ g.T + 1; omega⟩
  split
  · unfold La.swap
    split <;> exact ⟨by show g.T ≤ g.T + 1; omega, Int.le_refl _⟩
  split
  · unfold La.stamp
    split <;> exact h2
  · exact ⟨Int.le_refl _, by show g.T ≤ g.T + 1; omega⟩

/-- What stands behind a hand's step. -/
def Std (w w' : World) (lo Wb H M G B : Nat) (C : Array Value) (o : Nat) (L : List Nat) (x : Hn × Wl) : Prop :=
  ∃ C' own' v', Wt w' lo Wb M G B x.2 v' ∧ w'.heap[H]? = some (.cells C' 58 (0, 0)) ∧ Same C C' o (o + 9) ∧ HnAt w' lo Wb H M G B C' o own' x.1 ∧ Cd lo (Wb :: H :: M :: G :: B :: L) w w' ∧ ∀ i ∈ own', i ∈ L ∨ w.heap.size ≤ i
/-- The hand is idle again. -/
theorem std_idle {w w0 w' : World} {lo Wb H M G B : Nat} {L : List Nat} {u : Wl} {v : Value} {C0 C' : Array Value} {o : Nat} {acts : List Ac} {va : Value} (ix : Ix w w' lo Wb H M G B L u v C') (hs : Same C0 C' o (o + 9)) (hsz : o + 10 ≤ C0.size)
    (h0 : C'[o]? = some va) (ha : ActsAt w0 lo va acts) (hc : Cd lo (Wb :: H :: M :: G :: B :: L) w0 w') (h1 : C'[o + 1]? = some (.pointer none)) (h5 : C'[o + 5]? = some (.pointer none)) (h6 : C'[o + 6]? = some (.int .i64 0)) :
    Std w w' lo Wb H M G B C0 o L (⟨acts, none⟩, u) := by
  refine ⟨C', [], v, ix.t, ix.hb, hs, ⟨by rw [hs.size]; exact hsz, ⟨va, h0, ha.cd hc fun i hi => ?_⟩, fun _ => ⟨h1, h5, h6, rfl⟩, (fun a m h => by cases h), fun i hi => by cases hi⟩, ix.cd, fun i hi => by cases hi⟩
  have := ix.lo
  have := ix.t.lo
  have := ix.t.gw.lo1
  simp only [List.mem_cons] at hi
  rcases hi with rfl | rfl | rfl | rfl | rfl | hi
  · omega
  · omega
  · omega
  · omega
  · omega
  · exact (ix.l i hi).1
theorem std_busy {w w0 w' : World} {lo Wb H M G B : Nat} {L own' : List Nat} {u : Wl} {v : Value} {C0 C' : Array Value} {o : Nat} {acts : List Ac} {va : Value} {a : Ac} {m : Mc} {A : Nat} (ix : Ix w w' lo Wb H M G B L u v C') (hs : Same C0 C' o (o + 9)) (hsz : o + 10 ≤ C0.size)
    (h0 : C'[o]? = some va) (ha : ActsAt w0 lo va acts) (hc : Cd lo (Wb :: H :: M :: G :: B :: L) w0 w') (h1 : C'[o + 1]? = some (.pointer (some ⟨A, 0, none⟩))) (hA : w'.heap[A]? = some (.cells (acC a) 51 (0, 0))) (hm : McAt w' lo M G B C' o own' m) (hk : m.kindOk a.kind) (ho : ∀ i ∈ own', i ∈ L ∨ w.heap.size ≤ i ∧ lo ≤ i ∧ i ≠ Wb ∧ i ≠ H ∧ i ≠ M ∧ i ≠ G ∧ i ≠ B) :
    Std w w' lo Wb H M G B C0 o L (⟨acts, some (a, m)⟩, u) := by
  refine ⟨C', own', v, ix.t, ix.hb, hs, ⟨by rw [hs.size]; exact hsz, ⟨va, h0, ha.cd hc fun i hi => ?_⟩, (fun h => by cases h), (fun a' m' h => by cases h; exact ⟨A, h1, hA, hm, hk⟩), fun i hi => ?_⟩, ix.cd, fun i hi => (ho i hi).imp id And.left⟩
  · have := ix.lo
    have := ix.t.lo
    have := ix.t.gw.lo1
    simp only [List.mem_cons] at hi
    rcases hi with rfl | rfl | rfl | rfl | rfl | hi
    · omega
    · omega
    · omega
    · omega
    · omega
    · exact (ix.l i hi).1
  · rcases ho i hi with h | h
    · exact ix.l i h
    · exact h.2
end Go.Proofs.YtnegdabcjnhpdaaGreatDoor
/- An act has begun; and the acts that are left lie where they lay. -/
namespace Go.Proofs.YtnegdabcjnhpdaaGreatDoor
open Go.RowKit
open Mm (IsMem MS touched Only)
open Hh (WT)
def Bgd2 (w w' : World) (lo Wb H M G B : Nat) (u : Wl) (v : Value) (C : Array Value) (o : Nat) (r : List Ac) (a : Ac) : Prop :=
  ∃ C' own', (∃ va, C'[o]? = some va ∧ ActsAt w lo va r) ∧ Wt w' lo Wb M G B (beg a u).2 v ∧ w'.heap[H]? = some (.cells C' 58 (0, 0)) ∧ Same C C' o (o + 9) ∧ HnAt w' lo Wb H M G B C' o own' ⟨r, some (a, (beg a u).1)⟩ ∧ Cd lo [Wb, H, M, G, B] w w' ∧ ∀ i ∈ own', w.heap.size ≤ i
theorem bgd2_of {w w8 : World} {lo Wb H M G B : Nat} {u : Wl} {v : Value} {C C' : Array Value} {o A : Nat} {r : List Ac} {a : Ac} {g' : Gs} {next' : Nat} {vs : Value} {own' : List Nat} {mc : Mc}
    (ia : Ia w w8 lo Wb H M G B g' (wlC M B next' v u.bad) C' A (acC a)) (row : w.ownsRow lo 61 8 v u.done.length (dnR u.done)) (hs : Same C C' o (o + 9)) (hsz : o + 10 ≤ C.size)
    (h0 : C'[o]? = some vs) (hacts : ActsAt w lo vs r) (h1 : C'[o + 1]? = some (.pointer (some ⟨A, 0, none⟩))) (hu : beg a u = (mc, ⟨g', next', u.done, u.bad⟩)) (hm : McAt w8 lo M G B C' o own' mc)
    (hk : mc.kindOk a.kind) (ho : ∀ i ∈ own', w.heap.size ≤ i) (hlt : Wb < w.heap.size ∧ H < w.heap.size ∧ M < w.heap.size ∧ G < w.heap.size ∧ B < w.heap.size) (hlo : lo ≤ w.heap.size) :
    Bgd2 w w8 lo Wb H M G B u v C o r a := by
  unfold Bgd2
  rw [hu]
  refine ⟨C', own', ⟨vs, h0, hacts⟩, ⟨ia.is.gw, ia.is.wb, own_same row ia.is.rows, ⟨ia.is.ne.1, ia.is.ne.2.1, ia.is.ne.2.2.1⟩, ia.is.lo.1⟩, ia.is.hb, hs, ⟨by rw [hs.size]; exact hsz, ⟨vs, h0, hacts.cd ia.is.cd ?_⟩, (fun h => by cases h), (fun a' m' h => ?_), fun i hi => ?_⟩, ia.is.cd, ho⟩
  · intro i hi
    have := ia.is.lo
    have := ia.is.gw.lo1
    simp at hi
    rcases hi with rfl | rfl | rfl | rfl | rfl <;> omega
  · cases h
    exact ⟨A, h1, ia.a, hm, hk⟩
  · have := ho i hi
    omega
end Go.Proofs.YtnegdabcjnhpdaaGreatDoor
