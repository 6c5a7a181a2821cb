/- A maker's step, where it is short. -/
import Derived.Test.YtjbjijkkmlehgaaDoorPC
namespace Go.Proofs.YtjbjijkkmlehgaaDoor
open Go.RowKit
open Hh (WT wordOf okW Hr)
set_option linter.unusedVariables false

set_option maxRecDepth 100000 in
set_option maxHeartbeats 4000000 in
/-- Idle, with no work left. -/
theorem step_rest {w : World} {B L o wc : Nat} {wa : Option Addr} {cur : Array Value} (row : RowM w L cur) (h0 : cur[o]? = some (.slice wa 0 wc)) (h7 : cur[o + 7]? = some (.pointer none)) (h8 : cur[o + 8]? = some (.pointer none)) :
    Calls Tryd.prog 11 #[.pointer (some ⟨L, o, none⟩), .pointer (some ⟨B, 0, none⟩)] w fun e w' => e = .returned (.bool true) ∧ w = w' := by
  have q0 := row.cell h0
  have q7 := row.cell h7
  have q8 := row.cell h8
  clear row h0 h7 h8
  go_enter Tryd.func11, Tryd.ntmps11
  go_wp2
  go_ret
  exact ⟨rfl, rfl⟩
set_option maxRecDepth 100000 in
set_option maxHeartbeats 4000000 in
/-- Idle, with work left: it begins. -/
theorem step_begin {w : World} {B L o wn wc : Nat} {wa : Option Addr} {cur : Array Value} {Q : World → Prop} (row : RowM w L cur) (h0 : cur[o]? = some (.slice wa (wn + 1) wc)) (h7 : cur[o + 7]? = some (.pointer none)) (h8 : cur[o + 8]? = some (.pointer none))
    (c40 : Calls Tryd.prog 40 #[.pointer (some ⟨L, o, none⟩), .pointer (some ⟨B, 0, none⟩)] w fun e w' => e = .returned (.bool true) ∧ Q w') :
    Calls Tryd.prog 11 #[.pointer (some ⟨L, o, none⟩), .pointer (some ⟨B, 0, none⟩)] w fun e w' => e = .returned (.bool true) ∧ Q w' := by
  have q0 := row.cell h0
  have q7 := row.cell h7
  have q8 := row.cell h8
  have hn : ¬ ((wn : Int) + 1 = 0) := by omega
  have HQ : Hid (Calls Tryd.prog 40 #[.pointer (some ⟨L, o, none⟩), .pointer (some ⟨B, 0, none⟩)] w fun e w' => e = .returned (.bool true) ∧ Q w') := c40
  clear row h0 h7 h8 c40
  go_enter Tryd.func11, Tryd.ntmps11
  go_wp2_with (go_at_call 40; refine HQ.out.mono ?_; rintro e w1 ⟨rfl, hq⟩)
  go_ret
  exact ⟨rfl, hq⟩
set_option maxRecDepth 100000 in
set_option maxHeartbeats 8000000 in
/-- A Make goes a step on. -/
theorem step_mk_more {w : World} {K : Cf} {B M G D L P o : Nat} {cur : Array Value} {X X1 : List Nat} {T T1 : Int} {Q : World → Prop} (row : RowM w L cur) (wd : WdAt w K B M D) (hm : MemX w M G X T) (ht : 0 ≤ T ∧ T < 4611686018427387904) (h1 : T1 ≤ T + 1) (h7 : cur[o + 7]? = some (.pointer (some ⟨P, 0, none⟩))) (cs : Calls Tryd.prog 20 #[.pointer (some ⟨P, 0, none⟩), .pointer (some ⟨M, 0, none⟩)] w.drew fun e w' => e = .returned (.bool false) ∧ RowM w' L cur ∧ WdAt w' K B M D ∧ MemX w' M G X1 T1 ∧ Q w') :
    Calls Tryd.prog 11 #[.pointer (some ⟨L, o, none⟩), .pointer (some ⟨B, 0, none⟩)] w fun e w' => e = .returned (.bool true) ∧ RowM w' L cur ∧ WdAt w' K B M D ∧ MemX w' M G X1 T1 ∧ Q w' := by
  have q7 := row.cell h7
  have b6 := wd.cells.2.1
  have c41 := touchesX hm
  have hw1 : IntKind.i64.wrap (T + 1) = T + 1 := by rw [IntKind.wrap_i64]; omega
  have row2 := RowM.below row (Below.refl _ _).drew
  have wd2 := WdAt.below wd (Below.refl _ _).drew
  have hS : (w.drew.cell? ⟨B, 6, none⟩ = some (.pointer (some ⟨M, 0, none⟩)) ∧ w.drew.cell? ⟨L, o + 7, none⟩ = some (.pointer (some ⟨P, 0, none⟩))) := ⟨wd2.cells.2.1, row2.cell h7⟩
  have kp : Hid (∀ w', RowM w' L cur → WdAt w' K B M D → (w'.cell? ⟨B, 6, none⟩ = some (.pointer (some ⟨M, 0, none⟩)) ∧ w'.cell? ⟨L, o + 7, none⟩ = some (.pointer (some ⟨P, 0, none⟩)))) := fun w' a b => ⟨b.cells.2.1, a.cell h7⟩
  have CS : Hid (Calls Tryd.prog 20 #[.pointer (some ⟨P, 0, none⟩), .pointer (some ⟨M, 0, none⟩)] w.drew fun e w' => e = .returned (.bool false) ∧ RowM w' L cur ∧ WdAt w' K B M D ∧ MemX w' M G X1 T1 ∧ Q w') := cs
  clear cs row wd hm row2 wd2
  go_enter Tryd.func11, Tryd.ntmps11
  go_upto_region 6 with (go_at_call 41; refine c41.mono ?_; rintro e w0 ⟨rfl, rfl⟩)
  clear c41
  go_region_held (fun wr => (wr.cell? ⟨B, 6, none⟩ = some (.pointer (some ⟨M, 0, none⟩)) ∧ wr.cell? ⟨L, o + 7, none⟩ = some (.pointer (some ⟨P, 0, none⟩)))) (first | with_reducible exact hS | with_reducible exact kp.out _ r1 d1) (first
    | (go_at_call 20; refine Calls.mono CS.out ?_; rintro e w1 ⟨rfl, r1, d1, x1, hq⟩))
  have c41 := touchesX x1
  clear q7 b6 hS
  have b6 := d1.cells.2.1
  have q7 := r1.cell h7
  clear CS kp
  go_wp2_with (go_at_call 41; refine c41.mono ?_; rintro e w2 ⟨rfl, rfl⟩)
  go_ret
  exact ⟨rfl, r1, d1, x1, hq⟩
set_option maxRecDepth 100000 in
set_option maxHeartbeats 8000000 in
/-- A Make goes its last step. -/
theorem step_mk_done {w : World} {K : Cf} {B M G D L P o : Nat} {cur : Array Value} {X X1 : List Nat} {T T1 : Int} {Q : World → Prop} (row : RowM w L cur) (wd : WdAt w K B M D) (hm : MemX w M G X T) (ht : 0 ≤ T ∧ T < 4611686018427387904) (h1 : T1 ≤ T + 1) (h7 : cur[o + 7]? = some (.pointer (some ⟨P, 0, none⟩))) (cs : Calls Tryd.prog 20 #[.pointer (some ⟨P, 0, none⟩), .pointer (some ⟨M, 0, none⟩)] w.drew fun e w' => e = .returned (.bool true) ∧ RowM w' L cur ∧ WdAt w' K B M D ∧ MemX w' M G X1 T1 ∧ Q w') {Q2 : World → Prop} (c42 : ∀ w', RowM w' L cur → WdAt w' K B M D → MemX w' M G X1 T1 → Q w' → Calls Tryd.prog 42 #[.pointer (some ⟨L, o, none⟩), .pointer (some ⟨B, 0, none⟩)] w' fun e w2 => e = .returned (.bool true) ∧ Q2 w2) :
    Calls Tryd.prog 11 #[.pointer (some ⟨L, o, none⟩), .pointer (some ⟨B, 0, none⟩)] w fun e w' => e = .returned (.bool true) ∧ Q2 w' := by
  have q7 := row.cell h7
  have b6 := wd.cells.2.1
  have c41 := touchesX hm
  have hw1 : IntKind.i64.wrap (T + 1) = T + 1 := by rw [IntKind.wrap_i64]; omega
  have row2 := RowM.below row (Below.refl _ _).drew
  have wd2 := WdAt.below wd (Below.refl _ _).drew
  have hS : (w.drew.cell? ⟨B, 6, none⟩ = some (.pointer (some ⟨M, 0, none⟩)) ∧ w.drew.cell? ⟨L, o + 7, none⟩ = some (.pointer (some ⟨P, 0, none⟩))) := ⟨wd2.cells.2.1, row2.cell h7⟩
  have kp : Hid (∀ w', RowM w' L cur → WdAt w' K B M D → (w'.cell? ⟨B, 6, none⟩ = some (.pointer (some ⟨M, 0, none⟩)) ∧ w'.cell? ⟨L, o + 7, none⟩ = some (.pointer (some ⟨P, 0, none⟩)))) := fun w' a b => ⟨b.cells.2.1, a.cell h7⟩
  have CS : Hid (Calls Tryd.prog 20 #[.pointer (some ⟨P, 0, none⟩), .pointer (some ⟨M, 0, none⟩)] w.drew fun e w' => e = .returned (.bool true) ∧ RowM w' L cur ∧ WdAt w' K B M D ∧ MemX w' M G X1 T1 ∧ Q w') := cs
  have C42 : Hid (∀ w', RowM w' L cur → WdAt w' K B M D → MemX w' M G X1 T1 → Q w' → Calls Tryd.prog 42 #[.pointer (some ⟨L, o, none⟩), .pointer (some ⟨B, 0, none⟩)] w' fun e w2 => e = .returned (.bool true) ∧ Q2 w2) := c42
  clear cs row wd hm row2 wd2 c42
  go_enter Tryd.func11, Tryd.ntmps11
  go_upto_region 6 with (go_at_call 41; refine c41.mono ?_; rintro e w0 ⟨rfl, rfl⟩)
  clear c41
  go_region_held (fun wr => (wr.cell? ⟨B, 6, none⟩ = some (.pointer (some ⟨M, 0, none⟩)) ∧ wr.cell? ⟨L, o + 7, none⟩ = some (.pointer (some ⟨P, 0, none⟩)))) (first | with_reducible exact hS | with_reducible exact kp.out _ r1 d1) (first
    | (go_at_call 20; refine Calls.mono CS.out ?_; rintro e w1 ⟨rfl, r1, d1, x1, hq⟩))
  have c41 := touchesX x1
  clear q7 b6 hS
  have b6 := d1.cells.2.1
  have q7 := r1.cell h7
  have c42 := C42.out _ r1 d1 x1 hq
  have R1 : Hid _ := r1
  have D1 : Hid _ := d1
  clear r1 d1 x1 hq C42 CS kp
  go_wp2_with (first
    | (go_at_call 41; refine c41.mono ?_; rintro e w2 ⟨rfl, rfl⟩)
    | (go_at_call 42; refine c42.mono ?_; rintro e w2 ⟨rfl, hq⟩))
  go_ret
  exact ⟨rfl, hq⟩
set_option maxRecDepth 100000 in
set_option maxHeartbeats 8000000 in
/-- A Free goes a step on. -/
theorem step_fr_more {w : World} {K : Cf} {B M G D L P o : Nat} {cur : Array Value} {X X1 : List Nat} {T T1 : Int} {Q : World → Prop} (row : RowM w L cur) (wd : WdAt w K B M D) (hm : MemX w M G X T) (ht : 0 ≤ T ∧ T < 4611686018427387904) (h1 : T1 ≤ T + 1) (h7 : cur[o + 7]? = some (.pointer none)) (h8 : cur[o + 8]? = some (.pointer (some ⟨P, 0, none⟩))) (cs : Calls Tryd.prog 26 #[.pointer (some ⟨P, 0, none⟩), .pointer (some ⟨M, 0, none⟩)] w.drew fun e w' => e = .returned (.bool false) ∧ RowM w' L cur ∧ WdAt w' K B M D ∧ MemX w' M G X1 T1 ∧ Q w') :
    Calls Tryd.prog 11 #[.pointer (some ⟨L, o, none⟩), .pointer (some ⟨B, 0, none⟩)] w fun e w' => e = .returned (.bool true) ∧ RowM w' L cur ∧ WdAt w' K B M D ∧ MemX w' M G X1 T1 ∧ Q w' := by
  have q7 := row.cell h7
  have q8 := row.cell h8
  have b6 := wd.cells.2.1
  have c41 := touchesX hm
  have hw1 : IntKind.i64.wrap (T + 1) = T + 1 := by rw [IntKind.wrap_i64]; omega
  have row2 := RowM.below row (Below.refl _ _).drew
  have wd2 := WdAt.below wd (Below.refl _ _).drew
  have hS : (w.drew.cell? ⟨B, 6, none⟩ = some (.pointer (some ⟨M, 0, none⟩)) ∧ w.drew.cell? ⟨L, o + 8, none⟩ = some (.pointer (some ⟨P, 0, none⟩))) := ⟨wd2.cells.2.1, row2.cell h8⟩
  have kp : Hid (∀ w', RowM w' L cur → WdAt w' K B M D → (w'.cell? ⟨B, 6, none⟩ = some (.pointer (some ⟨M, 0, none⟩)) ∧ w'.cell? ⟨L, o + 8, none⟩ = some (.pointer (some ⟨P, 0, none⟩)))) := fun w' a b => ⟨b.cells.2.1, a.cell h8⟩
  have CS : Hid (Calls Tryd.prog 26 #[.pointer (some ⟨P, 0, none⟩), .pointer (some ⟨M, 0, none⟩)] w.drew fun e w' => e = .returned (.bool false) ∧ RowM w' L cur ∧ WdAt w' K B M D ∧ MemX w' M G X1 T1 ∧ Q w') := cs
  clear cs row wd hm row2 wd2
  go_enter Tryd.func11, Tryd.ntmps11
  go_upto_region 7 with (go_at_call 41; refine c41.mono ?_; rintro e w0 ⟨rfl, rfl⟩)
  clear c41
  go_region_held (fun wr => (wr.cell? ⟨B, 6, none⟩ = some (.pointer (some ⟨M, 0, none⟩)) ∧ wr.cell? ⟨L, o + 8, none⟩ = some (.pointer (some ⟨P, 0, none⟩)))) (first | with_reducible exact hS | with_reducible exact kp.out _ r1 d1) (first
    | (go_at_call 26; refine Calls.mono CS.out ?_; rintro e w1 ⟨rfl, r1, d1, x1, hq⟩))
  have c41 := touchesX x1
  clear q7 b6 q8 hS
  have b6 := d1.cells.2.1
  have q7 := r1.cell h7
  have q8 := r1.cell h8
  clear CS kp
  go_wp2_with (go_at_call 41; refine c41.mono ?_; rintro e w2 ⟨rfl, rfl⟩)
  go_ret
  exact ⟨rfl, r1, d1, x1, hq⟩
end Go.Proofs.YtjbjijkkmlehgaaDoor
/- A maker's next work begins. -/
namespace Go.Proofs.YtjbjijkkmlehgaaDoor
open Go.RowKit
open Hh (WT wordOf okW Hr)
set_option linter.unusedVariables false

/-- A piece of work lies in block b, from off on. -/
def WoAt (w : World) (b off : Nat) (x : Wo) : Prop :=
  w.cell? ⟨b, off, none⟩ = some (.bool x.free) ∧ w.cell? ⟨b, off + 1, none⟩ = some (.bool x.rc) ∧ w.cell? ⟨b, off + 2, none⟩ = some (.int .u8 (x.ar : Nat)) ∧ w.cell? ⟨b, off + 3, none⟩ = some (.int .u8 (x.e : Nat)) ∧ w.cell? ⟨b, off + 4, none⟩ = some (.int .u64 (x.wd : Nat))
/-- The maker's cells behind the first two rows of begin. -/
def nowW (w : World) (L o : Nat) (x : Wo) (wv : Value) : World := (((((w.setCell ⟨L, o + 1, none⟩ (.bool x.free)).setCell ⟨L, o + 2, none⟩ (.bool x.rc)).setCell ⟨L, o + 3, none⟩ (.int .u8 (x.ar : Nat))).setCell ⟨L, o + 4, none⟩ (.int .u8 (x.e : Nat))).setCell ⟨L, o + 5, none⟩ (.int .u64 (x.wd : Nat))).setCell ⟨L, o, none⟩ wv
set_option maxRecDepth 100000 in
set_option maxHeartbeats 8000000 in
/-- It would free, and has nothing. -/
theorem begin_none {w : World} {B L o b off wn wc hc : Nat} {ha : Option Addr} {cur : Array Value} {x : Wo} (row : RowM w L cur) (h0 : cur[o]? = some (.slice (some ⟨b, off, none⟩) (wn + 1) wc))
    (z1 : cur[o + 1]?.isSome) (z2 : cur[o + 2]?.isSome) (z3 : cur[o + 3]?.isSome) (z4 : cur[o + 4]?.isSome) (z5 : cur[o + 5]?.isSome) (h6 : cur[o + 6]? = some (.slice ha 0 hc)) (hx : WoAt w b off x) (hb : b ≠ L) (hf : x.free = true) (hcap : wn + 1 ≤ wc) (hcm : wc < 4611686018427387904) :
    Calls Tryd.prog 40 #[.pointer (some ⟨L, o, none⟩), .pointer (some ⟨B, 0, none⟩)] w fun e w' => e = .returned (.bool true) ∧ w' = nowW w L o x (.slice (if wc = 1 then some ⟨b, off, none⟩ else some ⟨b, off + 5, none⟩) wn (wc - 1)) := by
  obtain ⟨u1, e1⟩ := Option.isSome_iff_exists.1 z1
  obtain ⟨u2, e2⟩ := Option.isSome_iff_exists.1 z2
  obtain ⟨u3, e3⟩ := Option.isSome_iff_exists.1 z3
  obtain ⟨u4, e4⟩ := Option.isSome_iff_exists.1 z4
  obtain ⟨u5, e5⟩ := Option.isSome_iff_exists.1 z5
  have q0 := row.cell h0
  have q1 := row.cell e1
  have q2 := row.cell e2
  have q3 := row.cell e3
  have q4 := row.cell e4
  have q5 := row.cell e5
  have q6 := row.cell h6
  have f0 := row.free o
  have f1 := row.free (o + 1)
  have f2 := row.free (o + 2)
  have f3 := row.free (o + 3)
  have f4 := row.free (o + 4)
  have f5 := row.free (o + 5)
  obtain ⟨x0, x1, x2, x3, x4⟩ := hx
  have hn : (0 : Int) < (wn : Int) + 1 := by omega
  have hn1 : ¬ ((wn : Int) + 1 < 1) := by omega
  rw [hf] at x0
  clear row h0 h6 z1 z2 z3 z4 z5 e1 e2 e3 e4 e5
  go_enter Tryd.func40, Tryd.ntmps40
  go_upto_region 3 with fail
  generalize he : (if wc = 1 then some (⟨b, off, none⟩ : Addr) else some ⟨b, off + 5, none⟩) = wa'
  go_wp2
  go_ret
  exact ⟨rfl, by unfold nowW; rw [hf]⟩
end Go.Proofs.YtjbjijkkmlehgaaDoor
/- All makers in the heap: what holds behind each step. -/
namespace Go.Proofs.YtjbjijkkmlehgaaDoor
open Go.RowKit
open Hh (WT wordOf okW Hr)
open Mm (IsWords)
set_option linter.unusedVariables false

/-- How often each slot was made something, in block D. -/
def IsMd (w : World) (D : Nat) (md : List Nat) : Prop := w.heap[D]? = some (.cells (ints md).toArray 3 (0, 0))
theorem IsMd.lt {w : World} {D : Nat} {md : List Nat} (h : IsMd w D md) : D < w.heap.size := lt_of_block h
theorem IsMd.cell {w : World} {D : Nat} {md : List Nat} (h : IsMd w D md) {s : Nat} (hs : s < md.length) : w.cell? ⟨D, s, none⟩ = some (.int .i64 (md.getD s 0 : Nat)) := by
  have h' : w.heap[D]? = _ := h
  have := ints_get md s hs
  simp [World.cell?, h', this]
theorem IsMd.free {w : World} {D : Nat} {md : List Nat} (h : IsMd w D md) (i : Nat) : w.frozen? ⟨D, i, none⟩ = false := by
  have h' : w.heap[D]? = _ := h
  simp [World.frozen?, h']
theorem IsMd.set {w : World} {D : Nat} {md : List Nat} (h : IsMd w D md) (s v : Nat) : IsMd (w.setCell ⟨D, s, none⟩ (.int .i64 (v : Nat))) D (md.set s v) := by
  have h1 := Mm.heap_setCell_at (o := s) h (.int .i64 (v : Nat))
  unfold IsMd
  rw [h1]
  simp [ints, List.map_set]
theorem IsMd.chg {l : List Nat} {w w' : World} {D : Nat} {md : List Nat} (h : IsMd w D md) (c : Chg l w w') (hn : D ∉ l) : IsMd w' D md := c.at h hn
theorem IsMd.below {w w' : World} {D : Nat} {md : List Nat} (h : IsMd w D md) (b : Below w.heap.size w w') : IsMd w' D md := h.chg (l := []) (Chg.of_below b) (by simp)

structure Wo.Ok (x : Wo) : Prop where
  ar : x.ar ≤ 255
  e : x.e ≤ 255
  wd : x.wd < 18446744073709551616
/-- Work that came in. -/
def Wk (w : World) (base : Nat) (wa : Option Addr) (wk : List Wo) : Prop :=
  ∀ i (hi : i < wk.length), ∃ b off, wa = some ⟨b, off, none⟩ ∧ b < base ∧ WoAt w b (off + i * 5) wk[i] ∧ (wk[i]).Ok
theorem WoAt.chg {l : List Nat} {w w' : World} {b off : Nat} {x : Wo} (h : WoAt w b off x) (c : Chg l w w') (hb : b < w.heap.size) (hn : b ∉ l) : WoAt w' b off x := by
  have e : ∀ i, w'.cell? ⟨b, i, none⟩ = w.cell? ⟨b, i, none⟩ := fun i => World.cell?_of_block (w := w) (c.block b hb hn)
  unfold WoAt at h ⊢
  simp only [e]
  exact h
theorem Wk.chg {l : List Nat} {w w' : World} {base : Nat} {wa : Option Addr} {wk : List Wo} (h : Wk w base wa wk) (c : Chg l w w') (hl : ∀ i ∈ l, base ≤ i) (hb : base ≤ w.heap.size) : Wk w' base wa wk := fun i hi => by
  obtain ⟨b, off, h1, h2, h3, h4⟩ := h i hi
  exact ⟨b, off, h1, h2, h3.chg c (by omega) (fun hm => by have := hl b hm; omega), h4⟩
theorem Wk.tail {w : World} {base b off wc : Nat} {x : Wo} {wk : List Wo} (h : Wk w base (some ⟨b, off, none⟩) (x :: wk)) (hc : wk.length + 1 ≤ wc) : Wk w base (if wc = 1 then some ⟨b, off, none⟩ else some ⟨b, off + 5, none⟩) wk := fun i hi => by
  obtain ⟨b', off', h1, h2, h3, h4⟩ := h (i + 1) (by simp; omega)
  cases h1
  refine ⟨b, off + 5, by rw [if_neg (by omega)], h2, ?_, h4⟩
  rw [show off + 5 + i * 5 = off + (i + 1) * 5 by omega]
  exact h3
theorem Wk.first {w : World} {base : Nat} {wa : Option Addr} {x : Wo} {wk : List Wo} (h : Wk w base wa (x :: wk)) : ∃ b off, wa = some ⟨b, off, none⟩ ∧ b < base ∧ WoAt w b off x ∧ x.Ok := by
  obtain ⟨b, off, h1, h2, h3, h4⟩ := h 0 (by simp)
  exact ⟨b, off, h1, h2, by simpa using h3, h4⟩

/-- A maker in the heap: the slice of what it has, its work, its machine's block. -/
structure Ma where
  hv : Value
  wa : Option Addr
  wk : List Wo
  wc : Nat
  P : Nat
def PhB : Ph → Nat → List Nat
  | .idle, _ => []
  | .mk m, P => [P, m.bb]
  | .fr _, P => [P]
def Ma.own (x : Ma) (r : Mr) : List Nat := x.hv.ownBlock.toList ++ PhB r.ph x.P
/-- The work that a maker is at. -/
structure NowAt (cur : Array Value) (o : Nat) (n : Wo) : Prop where
  rc : cur[o + 2]? = some (.bool n.rc)
  ar : cur[o + 3]? = some (.int .u8 (n.ar : Nat))
  e : cur[o + 4]? = some (.int .u8 (n.e : Nat))
  wd : cur[o + 5]? = some (.int .u64 (n.wd : Nat))
def Wo.kind (n : Wo) : Nat := if n.rc = true then 2 else 1
def Wo.arity (n : Wo) (K : Cf) : Nat := if n.rc = true then 0 else n.ar % (K.a.toNat + 1)
structure Is (K : Cf) (m : Mk) (n : Wo) : Prop where
  ok : n.Ok
  kind : m.kind = n.kind
  ar : m.ar = n.arity K
  e : m.e = n.e
  body : m.body = fillW K.B [n.wd]
def PhAt (w : World) (o : Nat) (K : Cf) (cur : Array Value) (P : Nat) : Ph → Prop
  | .idle => cur[o + 7]? = some (.pointer none) ∧ cur[o + 8]? = some (.pointer none)
  | .mk m => cur[o + 7]? = some (.pointer (some ⟨P, 0, none⟩)) ∧ cur[o + 8]? = some (.pointer none) ∧ MkIn w K P m ∧ ∃ n, NowAt cur o n ∧ Is K m n
  | .fr f => cur[o + 7]? = some (.pointer none) ∧ cur[o + 8]? = some (.pointer (some ⟨P, 0, none⟩)) ∧ FrIn w K P f ∧ cur[o + 9]? = some (.int .i64 (f.q.sl : Nat))
structure MaOk (w : World) (base o : Nat) (K : Cf) (cur : Array Value) (r : Mr) (x : Ma) : Prop where
  c0 : cur[o]? = some (.slice x.wa x.wk.length x.wc)
  c1 : cur[o + 1]?.isSome
  c2 : cur[o + 2]?.isSome
  c3 : cur[o + 3]?.isSome
  c4 : cur[o + 4]?.isSome
  c5 : cur[o + 5]?.isSome
  c6 : cur[o + 6]? = some x.hv
  c9 : cur[o + 9]?.isSome
  has : IsI w x.hv r.has
  wk : Wk w base x.wa x.wk
  wc : x.wk.length ≤ x.wc ∧ x.wc < 9223372036854775808
  ph : PhAt w o K cur x.P r.ph
theorem PhAt.chg {l : List Nat} {w w' : World} {o : Nat} {K : Cf} {cur cur' : Array Value} {P : Nat} {ph : Ph} (h : PhAt w o K cur P ph) (c : Chg l w w') (hn : ∀ b ∈ PhB ph P, b ∉ l) (hc : ∀ k, k < 10 → cur'[o + k]? = cur[o + k]?) : PhAt w' o K cur' P ph := by
  cases ph with
  | idle => exact ⟨(hc 7 (by omega)).trans h.1, (hc 8 (by omega)).trans h.2⟩
  | mk m =>
    obtain ⟨h1, h2, h3, n, h4, h5⟩ := h
    exact ⟨(hc 7 (by omega)).trans h1, (hc 8 (by omega)).trans h2, h3.chg c (hn P (by simp [PhB])) (hn m.bb (by simp [PhB])), n, ⟨(hc 2 (by omega)).trans h4.rc, (hc 3 (by omega)).trans h4.ar, (hc 4 (by omega)).trans h4.e, (hc 5 (by omega)).trans h4.wd⟩, h5⟩
  | fr f =>
    obtain ⟨h1, h2, h3, h4⟩ := h
    exact ⟨(hc 7 (by omega)).trans h1, (hc 8 (by omega)).trans h2, h3.chg c (hn P (by simp [PhB])), (hc 9 (by omega)).trans h4⟩
theorem PhAt.lt {w : World} {o : Nat} {K : Cf} {cur : Array Value} {P : Nat} {ph : Ph} (h : PhAt w o K cur P ph) : ∀ b ∈ PhB ph P, b < w.heap.size := by
  intro b hb
  cases ph with
  | idle => simp [PhB] at hb
  | mk m =>
    have := h.2.2.1.lt
    simp [PhB] at hb
    rcases hb with rfl | rfl
    · exact this.1
    · exact this.2
  | fr f =>
    have := h.2.2.1.lt
    simp [PhB] at hb
    subst hb
    exact this
theorem Ma.own_hv {x : Ma} {r : Mr} {g : Nat} (h : x.hv.ownBlock = some g) : g ∈ x.own r := by unfold Ma.own; simp [h]
theorem MaOk.chg {l : List Nat} {w w' : World} {base o : Nat} {K : Cf} {cur cur' : Array Value} {r : Mr} {x : Ma} (h : MaOk w base o K cur r x) (c : Chg l w w') (hn : ∀ b ∈ x.own r, b ∉ l) (hl : ∀ i ∈ l, base ≤ i) (hb : base ≤ w.heap.size) (hc : ∀ k, k < 10 → cur'[o + k]? = cur[o + k]?) : MaOk w' base o K cur' r x :=
  ⟨(hc 0 (by omega)).trans h.c0, (by rw [hc 1 (by omega)]; exact h.c1), (by rw [hc 2 (by omega)]; exact h.c2), (by rw [hc 3 (by omega)]; exact h.c3), (by rw [hc 4 (by omega)]; exact h.c4), (by rw [hc 5 (by omega)]; exact h.c5), (hc 6 (by omega)).trans h.c6, (by rw [hc 9 (by omega)]; exact h.c9),
   h.has.chg c (fun g hg => hn g (Ma.own_hv hg)), h.wk.chg c hl hb, h.wc, h.ph.chg c (fun b hb => hn b (by unfold Ma.own; simp [hb])) hc⟩
theorem MaOk.own_lt {w : World} {base o : Nat} {K : Cf} {cur : Array Value} {r : Mr} {x : Ma} (h : MaOk w base o K cur r x) : ∀ b ∈ x.own r, b < w.heap.size := by
  intro b hb
  rcases List.mem_append.1 hb with h1 | h1
  · exact h.has.lt (by simpa using h1)
  · exact h.ph.lt b h1

def updA (A : Nat → Ma) (i : Nat) (a : Ma) : Nat → Ma := fun j => if j = i then a else A j
/-- All that holds behind each step. -/
structure Ws (w wr : World) (K : Cf) (n M G B D L : Nat) (X : List Nat) (T : Int) (tag : Nat) (F md : List Nat) (cur : Array Value) (R : Nat → Mr) (A : Nat → Ma) : Prop where
  mem : MemX wr M G X T
  wt : WT wr
  inv : Inv K n X tag F md R
  row : RowM wr L cur
  wd : WdAt wr K B M D
  cnt : IsMd wr D md
  ma : ∀ i, i < n → MaOk wr w.heap.size (i * 10) K cur (R i) (A i)
  far : ∀ i, i < n → ∀ b ∈ (A i).own (R i), b ∉ [M, G, B, D, L] ∧ w.heap.size + 1 ≤ b
  nd : ∀ i, i < n → ((A i).own (R i)).Nodup
  apart : ∀ i, i < n → ∀ j, j < n → i ≠ j → ∀ b ∈ (A i).own (R i), b ∉ (A j).own (R j)
  bel : Below w.heap.size w wr
  cfg : IsCfg wr w.heap.size K.S K.a K.C K.D K.g K.k
  hi : ∀ b ∈ [M, G, B, D, L], w.heap.size + 1 ≤ b
  ne : [M, G, B, D, L].Nodup
theorem Ws.below {w wr w1 : World} {K : Cf} {n M G B D L : Nat} {X : List Nat} {T : Int} {tag : Nat} {F md : List Nat} {cur : Array Value} {R : Nat → Mr} {A : Nat → Ma} (h : Ws w wr K n M G B D L X T tag F md cur R A) (b : Below wr.heap.size wr w1) : Ws w w1 K n M G B D L X T tag F md cur R A :=
  ⟨h.mem.below b, h.wt.below b, h.inv, h.row.below b, h.wd.below b, h.cnt.below b, fun i hi => (h.ma i hi).chg (l := []) (Chg.of_below b) (fun _ _ => by simp) (by simp) h.bel.size (fun _ _ => rfl), h.far, h.nd, h.apart, h.bel.trans (b.mono h.bel.size), h.cfg.below b, h.hi, h.ne⟩
theorem Ws.drew {w wr : World} {K : Cf} {n M G B D L : Nat} {X : List Nat} {T : Int} {tag : Nat} {F md : List Nat} {cur : Array Value} {R : Nat → Mr} {A : Nat → Ma} (h : Ws w wr K n M G B D L X T tag F md cur R A) : Ws w wr.drew K n M G B D L X T tag F md cur R A := h.below (Below.refl _ _).drew
/-- What a maker's step leaves. -/
structure Lf (w wr w' : World) (K : Cf) (n M G B D L : Nat) (cur : Array Value) (R : Nat → Mr) (A : Nat → Ma) (i : Nat) (X : List Nat) (T : Int) (tag : Nat) (F md : List Nat) (cur' : Array Value) (r : Mr) (a : Ma) : Prop where
  mem : MemX w' M G X T
  inv : Inv K n X tag F md (upd R i r)
  row : RowM w' L cur'
  cnt : IsMd w' D md
  ma : MaOk w' w.heap.size (i * 10) K cur' r a
  same : Same cur cur' (i * 10) (i * 10 + 9)
  own : ∀ b ∈ a.own r, b ∈ (A i).own (R i) ∨ wr.heap.size ≤ b
  nd : (a.own r).Nodup
  ch : Chg ([M, G, D, L] ++ (A i).own (R i)) wr w'
theorem Ws.step {w wr w' : World} {K : Cf} {n M G B D L : Nat} {X : List Nat} {T : Int} {tag : Nat} {F md : List Nat} {cur : Array Value} {R : Nat → Mr} {A : Nat → Ma} (h : Ws w wr K n M G B D L X T tag F md cur R A) {i : Nat} (hi : i < n) {X' : List Nat} {T' : Int} {tag' : Nat} {F' md' : List Nat} {cur' : Array Value} {r' : Mr} {a' : Ma}
    (lf : Lf w wr w' K n M G B D L cur R A i X' T' tag' F' md' cur' r' a') : Ws w w' K n M G B D L X' T' tag' F' md' cur' (upd R i r') (updA A i a') := by
  have hln : ∀ b ∈ [M, G, D, L] ++ (A i).own (R i), w.heap.size + 1 ≤ b := fun b hb => by
    rcases List.mem_append.1 hb with h1 | h1
    · exact h.hi b (by simp at h1 ⊢; rcases h1 with e | e | e | e <;> simp [e])
    · exact (h.far i hi b h1).2
  have hne := h.ne
  have hB : B ∉ [M, G, D, L] ++ (A i).own (R i) := fun hb => by
    rcases List.mem_append.1 hb with h1 | h1
    · simp at hne h1
      omega
    · exact (h.far i hi B h1).1 (by simp)
  have hj : ∀ j, j < n → j ≠ i → ∀ b ∈ (A j).own (R j), b ∉ [M, G, D, L] ++ (A i).own (R i) := fun j hj hne b hb hm => by
    rcases List.mem_append.1 hm with h1 | h1
    · exact (h.far j hj b hb).1 (by simp at h1 ⊢; rcases h1 with e | e | e | e <;> simp [e])
    · exact h.apart j hj i hi hne b hb h1
  have hsz : ∀ b ∈ [M, G, B, D, L], b < wr.heap.size := fun b hb => by
    have a1 := h.mem.lt
    have a2 := lt_of_block h.wd
    have a3 := h.cnt.lt
    have a4 := h.row.lt
    simp at hb
    rcases hb with e | e | e | e | e <;> subst e <;> omega
  have ui : upd R i r' i = r' := by unfold upd; rw [if_pos rfl]
  have un : ∀ j, j ≠ i → upd R i r' j = R j := fun j e => by unfold upd; rw [if_neg e]
  have ai : updA A i a' i = a' := by unfold updA; rw [if_pos rfl]
  have an : ∀ j, j ≠ i → updA A i a' j = A j := fun j e => by unfold updA; rw [if_neg e]
  refine ⟨lf.mem, WT.chg h.wt lf.ch (fun hm => by have := hln 0 hm; omega), lf.inv, lf.row, h.wd.chg lf.ch hB, lf.cnt, ?_, ?_, ?_, ?_, ?_, ?_, h.hi, h.ne⟩
  · intro j hjl
    by_cases e : j = i
    · subst e
      rw [ui, ai]
      exact lf.ma
    · rw [un j e, an j e]
      exact (h.ma j hjl).chg lf.ch (hj j hjl e) (fun b hb => by have := hln b hb; omega) h.bel.size (fun k hk => lf.same.out _ (by omega))
  · intro j hjl b hb
    by_cases e : j = i
    · subst e
      rw [ui, ai] at hb
      rcases lf.own b hb with h1 | h1
      · exact h.far j hi b h1
      · have := h.bel.size
        have := h.cfg.lt
        refine ⟨fun hm => ?_, by omega⟩
        have := hsz b hm
        omega
    · rw [un j e, an j e] at hb
      exact h.far j hjl b hb
  · intro j hjl
    by_cases e : j = i
    · subst e
      rw [ui, ai]
      exact lf.nd
    · rw [un j e, an j e]
      exact h.nd j hjl
  · intro j hjl k hkl hjk b hb hb2
    by_cases e : j = i
    · subst e
      rw [ui, ai] at hb
      rw [un k (Ne.symm hjk), an k (Ne.symm hjk)] at hb2
      rcases lf.own b hb with h1 | h1
      · exact h.apart j hi k hkl hjk b h1 hb2
      · have := (h.ma k hkl).own_lt b hb2
        omega
    · rw [un j e, an j e] at hb
      by_cases e2 : k = i
      · subst e2
        rw [ui, ai] at hb2
        rcases lf.own b hb2 with h1 | h1
        · exact h.apart j hjl k hi hjk b hb h1
        · have := (h.ma j hjl).own_lt b hb
          omega
      · rw [un k e2, an k e2] at hb2
        exact h.apart j hjl k hkl hjk b hb hb2
  · exact lf.ch.below h.bel (fun b hb => by have := hln b hb; omega) (Nat.le_refl _)
  · exact h.cfg.chg lf.ch (fun hm => by have := hln _ hm; omega)
end Go.Proofs.YtjbjijkkmlehgaaDoor
/- A maker's next work begins: a Make. -/
namespace Go.Proofs.YtjbjijkkmlehgaaDoor
open Go.RowKit
open Hh (WT wordOf okW Hr)
open Mm (IsWords)
set_option linter.unusedVariables false

theorem hide {p : Prop} (h : p) : Hid p := h
/-- The maker's cells behind the first two rows of begin. -/
def curN (cur : Array Value) (o : Nat) (x : Wo) (wv : Value) : Array Value := (((((cur.setIfInBounds (o + 1) (.bool x.free)).setIfInBounds (o + 2) (.bool x.rc)).setIfInBounds (o + 3) (.int .u8 (x.ar : Nat))).setIfInBounds (o + 4) (.int .u8 (x.e : Nat))).setIfInBounds (o + 5) (.int .u64 (x.wd : Nat))).setIfInBounds o wv
theorem nowW_row {w : World} {L o : Nat} {x : Wo} {wv : Value} {cur : Array Value} (h : RowM w L cur) : RowM (nowW w L o x wv) L (curN cur o x wv) :=
  (((((h.set (o + 1) _).set (o + 2) _).set (o + 3) _).set (o + 4) _).set (o + 5) _).set o _
theorem nowW_chg (w : World) (L o : Nat) (x : Wo) (wv : Value) : Chg [L] w (nowW w L o x wv) :=
  ((((((Chg.refl [L] w).setCell (.inl (by simp)) _).setCell (.inl (by simp)) _).setCell (.inl (by simp)) _).setCell (.inl (by simp)) _).setCell (.inl (by simp)) _).setCell (.inl (by simp)) _
theorem nowW_size (w : World) (L o : Nat) (x : Wo) (wv : Value) : (nowW w L o x wv).heap.size = w.heap.size := by unfold nowW; simp
structure CurN (cur c : Array Value) (o : Nat) (x : Wo) (wv : Value) : Prop where
  c0 : c[o]? = some wv
  c1 : c[o + 1]? = some (.bool x.free)
  now : NowAt c o x
  hi : ∀ k, 6 ≤ k → c[o + k]? = cur[o + k]?
  same : Same cur c o (o + 9)
theorem curN_cells {cur : Array Value} {o : Nat} {x : Wo} {wv : Value} (h : o + 5 < cur.size) : CurN cur (curN cur o x wv) o x wv := by
  have e0 : (curN cur o x wv).size = cur.size := by unfold curN; simp
  refine ⟨?_, ?_, ⟨?_, ?_, ?_, ?_⟩, fun k hk => ?_, ⟨e0, fun i hi => ?_⟩⟩
  all_goals unfold curN
  · simp [show o < cur.size by omega]
  · rw [set_ne (by omega), set_ne (by omega), set_ne (by omega), set_ne (by omega), set_ne (by omega)]; simp [show o + 1 < cur.size by omega]
  · rw [set_ne (by omega), set_ne (by omega), set_ne (by omega), set_ne (by omega)]; simp [show o + 2 < cur.size by omega]
  · rw [set_ne (by omega), set_ne (by omega), set_ne (by omega)]; simp [show o + 3 < cur.size by omega]
  · rw [set_ne (by omega), set_ne (by omega)]; simp [show o + 4 < cur.size by omega]
  · rw [set_ne (by omega)]; simp [show o + 5 < cur.size by omega]
  · rw [set_ne (by omega), set_ne (by omega), set_ne (by omega), set_ne (by omega), set_ne (by omega), set_ne (by omega)]
  · rw [set_ne (by omega), set_ne (by omega), set_ne (by omega), set_ne (by omega), set_ne (by omega), set_ne (by omega)]

theorem one_word (w : World) (wd : Nat) : SrW (w.alloc (.cells #[.int .u64 (wd : Nat)] 35)) (some ⟨w.heap.size, 0, none⟩) [wd] := fun i hi => by
  have e : i = 0 := by simp at hi; omega
  subst e
  exact ⟨w.heap.size, 0, rfl, by simp, by
    have h := new_obj w (.cells #[.int .u64 (wd : Nat)] 35)
    simp only [World.cell?, h]
    rfl⟩
theorem may_wo {K : Cf} (hK : K.Ok) (x : Wo) : mayB K.a ((x.kind : Nat) : Int) ((x.arity K : Nat) : Int) = true ∧ x.arity K < 16 ∧ 0 ≤ K.a ∧ K.a ≤ 8 := by
  have ha := (rightB_iff.1 hK.r).2.1
  have h1 : x.ar % (K.a.toNat + 1) < K.a.toNat + 1 := Nat.mod_lt _ (by omega)
  refine ⟨?_, ?_, by omega, by omega⟩
  · unfold mayB Wo.kind Wo.arity
    generalize x.ar % (K.a.toNat + 1) = v at *
    cases x.rc
    · simp; omega
    · simp
  · unfold Wo.arity
    split <;> omega
theorem arity_wo (x : Wo) {K : Cf} (h0 : 0 ≤ K.a) (h8 : K.a ≤ 8) (hok : x.Ok) (hrc : x.rc = false) {av : Int} (hav : (wrap64 (x.ar : Int)).tmod (K.a + 1) = av) : ((x.arity K : Nat) : Int) = av := by
  have h255 := hok.ar
  rw [← hav]
  have e1 : wrap64 (x.ar : Int) = (x.ar : Int) := by unfold wrap64; omega
  rw [e1, Int.tmod_eq_emod_of_nonneg (by omega)]
  unfold Wo.arity
  simp [hrc, show max K.a 0 = K.a by omega]
set_option maxRecDepth 100000 in
set_option maxHeartbeats 8000000 in
/-- A Make begins. -/
theorem begin_make {w : World} {K : Cf} (hK : K.Ok) {B M D L o b off wn wc : Nat} {cur : Array Value} {x : Wo} (row : RowM w L cur) (wd : WdAt w K B M D) (hBL : B ≠ L) (h0 : cur[o]? = some (.slice (some ⟨b, off, none⟩) (wn + 1) wc))
    (z1 : cur[o + 1]?.isSome) (z2 : cur[o + 2]?.isSome) (z3 : cur[o + 3]?.isSome) (z4 : cur[o + 4]?.isSome) (z5 : cur[o + 5]?.isSome) (h7 : cur[o + 7]? = some (.pointer none)) (hx : WoAt w b off x) (hok : x.Ok) (hb : b ≠ L) (hf : x.free = false) (hcap : wn + 1 ≤ wc) (hcm : wc < 9223372036854775808) {wa' : Option Addr} (hwa : (if wc = 1 then some (⟨b, off, none⟩ : Addr) else some ⟨b, off + 5, none⟩) = wa') :
    Calls Tryd.prog 40 #[.pointer (some ⟨L, o, none⟩), .pointer (some ⟨B, 0, none⟩)] w fun e w' => e = .returned (.bool true) ∧ ∃ P R, RowM w' L ((curN cur o x (.slice wa' wn (wc - 1))).setIfInBounds (o + 7) (.pointer (some ⟨P, 0, none⟩))) ∧ MkIn w' K P (mk0 x.kind (x.arity K) x.e R K.B [x.wd]) ∧ w.heap.size ≤ P ∧ w.heap.size ≤ R ∧ R ≠ P ∧ Chg [L] w w' := by
  obtain ⟨u1, e1⟩ := Option.isSome_iff_exists.1 z1
  obtain ⟨u2, e2⟩ := Option.isSome_iff_exists.1 z2
  obtain ⟨u3, e3⟩ := Option.isSome_iff_exists.1 z3
  obtain ⟨u4, e4⟩ := Option.isSome_iff_exists.1 z4
  obtain ⟨u5, e5⟩ := Option.isSome_iff_exists.1 z5
  have q0 := row.cell h0
  have q1 := row.cell e1
  have q2 := row.cell e2
  have q3 := row.cell e3
  have q4 := row.cell e4
  have q5 := row.cell e5
  have f0 := row.free o
  have f1 := row.free (o + 1)
  have f2 := row.free (o + 2)
  have f3 := row.free (o + 3)
  have f4 := row.free (o + 4)
  have f5 := row.free (o + 5)
  obtain ⟨x0, x1, x2, x3, x4⟩ := hx
  have hn : (0 : Int) < (wn : Int) + 1 := by omega
  have hn1 : ¬ ((wn : Int) + 1 < 1) := by omega
  obtain ⟨hmay, har, ha0, ha8⟩ := may_wo hK x
  have hb3 := hK.b3
  have hsz5 : o + 5 < cur.size := lt_get e5
  rw [hf] at x0
  have hRow : Hid (∀ wv, RowM (nowW w L o x wv) L (curN cur o x wv) ∧ Chg [L] w (nowW w L o x wv) ∧ CurN cur (curN cur o x wv) o x wv ∧ (nowW w L o x wv).heap.size = w.heap.size) := fun wv => ⟨nowW_row row, nowW_chg _ _ _ _ _, curN_cells hsz5, nowW_size _ _ _ _ _⟩
  have hWd : Hid (WdAt w K B M D) := wd
  have H7 : Hid (cur[o + 7]? = some (.pointer none)) := h7
  have HWA := hide (hwa)
  clear row h0 z1 z2 z3 z4 z5 e1 e2 e3 e4 e5 wd h7 hwa
  go_enter Tryd.func40, Tryd.ntmps40
  go_upto_region 13 with fail
  rw [HWA.out]
  obtain ⟨row, ch, cn, hsz⟩ := hRow.out (.slice wa' wn (wc - 1))
  have wd := hWd.out.chg ch (by simpa using hBL)
  generalize hw5 : ((((((w.setCell ⟨L, o + 1, none⟩ (.bool false)).setCell ⟨L, o + 2, none⟩ (.bool x.rc)).setCell ⟨L, o + 3, none⟩ (.int .u8 (x.ar : Nat))).setCell ⟨L, o + 4, none⟩ (.int .u8 (x.e : Nat))).setCell ⟨L, o + 5, none⟩ (.int .u64 (x.wd : Nat))).setCell ⟨L, o, none⟩ (.slice wa' wn (wc - 1))) = w5
  have e5 : nowW w L o x (.slice wa' wn (wc - 1)) = w5 := by rw [← hw5]; unfold nowW; rw [hf]
  rw [e5] at row ch wd hsz
  clear hw5 e5
  obtain ⟨c5, hc5⟩ : ∃ c5, curN cur o x (.slice wa' wn (wc - 1)) = c5 := ⟨_, rfl⟩
  rw [hc5] at row cn
  have HC5 := hide (hc5)
  clear q0 q1 q2 q3 q4 q5 f0 f1 f2 f3 f4 f5 x0 x1 x2 x3 x4 hn hn1 hRow hWd HWA hc5
  have p1 := row.cell cn.c1
  rw [hf] at p1
  have p2 := row.cell cn.now.rc
  have p3 := row.cell cn.now.ar
  have p4 := row.cell cn.now.e
  have p5 := row.cell cn.now.wd
  have p7 := row.cell ((cn.hi 7 (by omega)).trans H7.out)
  have y7 := row.free (o + 7)
  obtain ⟨⟨l0, l1, l2, l3, l4, l5⟩, _, _⟩ := wd.cells
  have hw1 : IntKind.i64.wrap (K.a + 1) = K.a + 1 := by rw [IntKind.wrap_i64]; omega
  have hne : ¬ K.a + 1 = 0 := by omega
  have ROW := hide (row)
  have WD := hide (wd)
  have CN := hide (cn)
  have CH := hide (ch)
  clear row wd cn ch hcap hcm hb hsz5
  have hwe : IntKind.u64.wrap (x.e : Int) = (x.e : Nat) := by have := hok.e; rw [IntKind.wrap_u64]; omega
  go_region
  generalize hav : (wrap64 (x.ar : Int)).tmod (K.a + 1) = av
  have hav' := fun hrc => arity_wo x (K := K) ha0 ha8 hok hrc hav
  have HAV := hide (hav')
  clear hav hav'
  go_upto_region 14 with fail
  have c19g : ∀ (kv av : Int), ((x.kind : Nat) : Int) = kv → ((x.arity K : Nat) : Int) = av → ∀ wr ad, SrW wr ad [x.wd] → Calls Tryd.prog 19 #[.agg (cs K.S K.a K.C K.D K.g K.k), .int .i64 kv, .int .i64 av, .int .u64 (x.e : Nat), .slice ad 1 1] wr fun e w' => ∃ P R c, e = .returned (.pointer (some ⟨P, 0, none⟩)) ∧ NewBlk wr w' P c 60 ∧ MkAt c K (mk0 x.kind (x.arity K) x.e R K.B [x.wd]) ∧ IsWords w' R (fillW K.B [x.wd]) ∧ wr.heap.size ≤ R ∧ R ≠ P := fun kv av h1 h2 wr ad hsr => by
    have c := newMake_yes (cap := 1) hK x.kind (x.arity K) x.e hmay hsr (n := 1) rfl (by omega)
    rw [h1, h2] at c
    exact c
  have HM : Hid (∀ w' P R c, NewBlk (w5.alloc (.cells #[.int .u64 (x.wd : Nat)] 35)).drew.drew w' P c 60 → MkAt c K (mk0 x.kind (x.arity K) x.e R K.B [x.wd]) → IsWords w' R (fillW K.B [x.wd]) → (w5.alloc (.cells #[.int .u64 (x.wd : Nat)] 35)).drew.drew.heap.size ≤ R → R ≠ P → w'.cell? ⟨L, o + 7, none⟩ = some (.pointer none) ∧ w'.frozen? ⟨L, o + 7, none⟩ = false ∧ Hid (RowM (w'.setCell ⟨L, o + 7, none⟩ (.pointer (some ⟨P, 0, none⟩))) L (c5.setIfInBounds (o + 7) (.pointer (some ⟨P, 0, none⟩))) ∧ MkIn (w'.setCell ⟨L, o + 7, none⟩ (.pointer (some ⟨P, 0, none⟩))) K P (mk0 x.kind (x.arity K) x.e R K.B [x.wd]) ∧ w.heap.size ≤ P ∧ w.heap.size ≤ R ∧ R ≠ P ∧ Chg [L] w (w'.setCell ⟨L, o + 7, none⟩ (.pointer (some ⟨P, 0, none⟩))))) := fun w' P R c n1 n2 n3 n4 n5 => by
    have b0 : Below w5.heap.size w5 (w5.alloc (.cells #[.int .u64 (x.wd : Nat)] 35)).drew.drew := (alloc_below _ _).drew.drew
    have b1 := seq_below b0 n1.bel
    have r1 := RowM.below ROW.out b1
    have hL : L < w5.heap.size := RowM.lt ROW.out
    have hP := n1.new
    have s0 := b0.size
    have hPL : P ≠ L := by omega
    have hRL : R ≠ L := by omega
    have c0 : Chg [L] w' (w'.setCell ⟨L, o + 7, none⟩ (.pointer (some ⟨P, 0, none⟩))) := (Chg.refl [L] w').setCell (.inl (by simp)) _
    have h7 : c5[o + 7]? = some (.pointer none) := (CN.out.hi 7 (by omega)).trans H7.out
    exact ⟨r1.cell h7, r1.free _, And.intro (r1.set _ _) <| And.intro (MkIn.chg ⟨c, n1.blk, n2, n3⟩ c0 (by simpa using hPL) (by simpa [mk0] using hRL)) ⟨by omega, by omega, n5, (CH.out.then_below b1).trans c0⟩⟩
  have HC := hide (p := ∀ wr, Below w5.heap.size w5 wr → wr.cell? ⟨B, 0, none⟩ = some (.int .i64 (K.S : Nat)) ∧ wr.cell? ⟨B, 1, none⟩ = some (.int .i64 K.a) ∧ wr.cell? ⟨B, 2, none⟩ = some (.int .i64 (K.C : Nat)) ∧ wr.cell? ⟨B, 3, none⟩ = some (.int .i64 (K.D : Nat)) ∧ wr.cell? ⟨B, 4, none⟩ = some (.int .i64 K.g) ∧ wr.cell? ⟨B, 5, none⟩ = some (.int .i64 K.k) ∧ wr.cell? ⟨L, o + 4, none⟩ = some (.int .u8 (x.e : Nat)) ∧ wr.cell? ⟨L, o + 5, none⟩ = some (.int .u64 (x.wd : Nat))) fun wr bl => by
    have r1 := RowM.below ROW.out bl
    obtain ⟨⟨l0, l1, l2, l3, l4, l5⟩, _, _⟩ := (WdAt.below WD.out bl).cells
    exact ⟨l0, l1, l2, l3, l4, l5, r1.cell CN.out.now.e, r1.cell CN.out.now.wd⟩
  have HC2 := hide (p := ∀ wr v, Below w5.heap.size w5 wr → (wr.setCell ⟨L, o + 7, none⟩ v).cell? ⟨B, 0, none⟩ = some (.int .i64 (K.S : Nat)) ∧ (wr.setCell ⟨L, o + 7, none⟩ v).cell? ⟨B, 1, none⟩ = some (.int .i64 K.a) ∧ (wr.setCell ⟨L, o + 7, none⟩ v).cell? ⟨B, 2, none⟩ = some (.int .i64 (K.C : Nat)) ∧ (wr.setCell ⟨L, o + 7, none⟩ v).cell? ⟨B, 3, none⟩ = some (.int .i64 (K.D : Nat)) ∧ (wr.setCell ⟨L, o + 7, none⟩ v).cell? ⟨B, 4, none⟩ = some (.int .i64 K.g) ∧ (wr.setCell ⟨L, o + 7, none⟩ v).cell? ⟨B, 5, none⟩ = some (.int .i64 K.k) ∧ (wr.setCell ⟨L, o + 7, none⟩ v).cell? ⟨L, o + 4, none⟩ = some (.int .u8 (x.e : Nat)) ∧ (wr.setCell ⟨L, o + 7, none⟩ v).cell? ⟨L, o + 5, none⟩ = some (.int .u64 (x.wd : Nat))) fun wr v bl => by
    have r1 := (RowM.below ROW.out bl).set (o + 7) v
    have ch : Chg [L] wr (wr.setCell ⟨L, o + 7, none⟩ v) := (Chg.refl [L] wr).setCell (.inl (by simp)) _
    obtain ⟨⟨l0, l1, l2, l3, l4, l5⟩, _, _⟩ := ((WdAt.below WD.out bl).chg ch (by simpa using hBL)).cells
    refine ⟨l0, l1, l2, l3, l4, l5, r1.cell ?_, r1.cell ?_⟩
    · rw [set_ne (by omega)]; exact CN.out.now.e
    · rw [set_ne (by omega)]; exact CN.out.now.wd
  cases hrc : x.rc
  · rw [hrc] at p2
    have c19 := c19g 1 av (by unfold Wo.kind; simp [hrc]) (HAV.out hrc)
    have hsr : SrW (w5.alloc (.cells #[.int .u64 (x.wd : Nat)] 35)).drew.drew (some ⟨w5.heap.size, 0, none⟩) [x.wd] := one_word w5 x.wd
    have C19 := hide (c19 _ _ hsr)
    clear hsr c19 c19g hmay hok hK hb3 har ha0 ha8 hsz hf p1 p3 hw1 hne
    go_upto_region 17 with fail
    clear p2 p4 p5 p7 y7 l0 l1 l2 l3 l4 l5
    have bl : Below w5.heap.size w5 w5.drew.drew := (Below.refl _ _).drew.drew
    have hS0 := HC.out _ bl
    refine wp_region_held_drew (S := fun wr => wr.cell? ⟨B, 0, none⟩ = some (.int .i64 (K.S : Nat)) ∧ wr.cell? ⟨B, 1, none⟩ = some (.int .i64 K.a) ∧ wr.cell? ⟨B, 2, none⟩ = some (.int .i64 (K.C : Nat)) ∧ wr.cell? ⟨B, 3, none⟩ = some (.int .i64 (K.D : Nat)) ∧ wr.cell? ⟨B, 4, none⟩ = some (.int .i64 K.g) ∧ wr.cell? ⟨B, 5, none⟩ = some (.int .i64 K.k) ∧ wr.cell? ⟨L, o + 4, none⟩ = some (.int .u8 (x.e : Nat)) ∧ wr.cell? ⟨L, o + 5, none⟩ = some (.int .u64 (x.wd : Nat))) (by kernel_rfl) hS0 (fun hS1 => ?_)
    clear hS0
    refine wpAnyH_take (i := 0) (oi := { dst := some 123, op := Go.Op.move (Go.Operand.tmp 0), type := 87, pos := "law.go:86", after := #[], guard := none }) (v := .pointer (some ⟨L, o, none⟩)) rfl (by kernel_rfl) (by kernel_rfl) (by kernel_rfl) (fun _ _ _ h => h) (Or.inl ⟨by rfl, fun w hSw => by (try dsimp only at hSw); go_simp⟩) hS1 ?_
    simp only [Act.put, List.setIfInBounds_toArray, List.set_cons_zero, List.set_cons_succ]
    refine wpAnyH_take (i := 1) (oi := { dst := some 124, op := Go.Op.move (Go.Operand.tmp 1), type := 27, pos := "law.go:86", after := #[], guard := none }) (v := .pointer (some ⟨B, 0, none⟩)) rfl (by kernel_rfl) (by kernel_rfl) (by kernel_rfl) (fun _ _ _ h => h) (Or.inl ⟨by rfl, fun w hSw => by (try dsimp only at hSw); go_simp⟩) hS1 ?_
    simp only [Act.put, List.setIfInBounds_toArray, List.set_cons_zero, List.set_cons_succ]
    refine wpAnyH_take (i := 2) (oi := { dst := some 125, op := Go.Op.nilCheck (Go.Operand.tmp 124), type := 0, pos := "law.go:86", after := #[{ on := 1, ground := Go.Ground.data }], guard := none }) (v := .pointer (some ⟨B, 0, none⟩)) rfl (by kernel_rfl) (by kernel_rfl) (by kernel_rfl) (fun _ _ _ h => h) (Or.inl ⟨by rfl, fun w hSw => by (try dsimp only at hSw); go_simp⟩) hS1 ?_
    simp only [Act.put, List.setIfInBounds_toArray, List.set_cons_zero, List.set_cons_succ]
    refine wpAnyH_take (i := 3) (oi := { dst := some 126, op := Go.Op.fieldAddr 31 (Go.Operand.tmp 125) 0, type := 0, pos := "law.go:86", after := #[{ on := 2, ground := Go.Ground.data }], guard := none }) (v := .pointer (some ⟨B, 0, none⟩)) rfl (by kernel_rfl) (by kernel_rfl) (by kernel_rfl) (fun _ _ _ h => h) (Or.inl ⟨by rfl, fun w hSw => by (try dsimp only at hSw); go_simp⟩) hS1 ?_
    simp only [Act.put, List.setIfInBounds_toArray, List.set_cons_zero, List.set_cons_succ]
    refine wpAnyH_take (i := 4) (oi := { dst := some 127, op := Go.Op.load 23 (Go.Operand.tmp 126), type := 23, pos := "law.go:86", after := #[{ on := 3, ground := Go.Ground.data }], guard := none }) (v := .agg #[.int .i64 (K.S : Nat), .int .i64 K.a, .int .i64 (K.C : Nat), .int .i64 (K.D : Nat), .int .i64 K.g, .int .i64 K.k]) rfl (by kernel_rfl) (by kernel_rfl) (by kernel_rfl) (fun _ _ _ h => h) (Or.inl ⟨by rfl, fun w hSw => by (try dsimp only at hSw); go_simp⟩) hS1 ?_
    simp only [Act.put, List.setIfInBounds_toArray, List.set_cons_zero, List.set_cons_succ]
    refine wpAnyH_take (i := 5) (oi := { dst := some 128, op := Go.Op.move (Go.Operand.tmp 7), type := 3, pos := "law.go:86", after := #[], guard := none }) (v := .int .i64 1) rfl (by kernel_rfl) (by kernel_rfl) (by kernel_rfl) (fun _ _ _ h => h) (Or.inl ⟨by rfl, fun w hSw => by (try dsimp only at hSw); go_simp⟩) hS1 ?_
    simp only [Act.put, List.setIfInBounds_toArray, List.set_cons_zero, List.set_cons_succ]
    refine wpAnyH_take (i := 6) (oi := { dst := some 129, op := Go.Op.move (Go.Operand.tmp 8), type := 3, pos := "law.go:86", after := #[], guard := none }) (v := .int .i64 av) rfl (by kernel_rfl) (by kernel_rfl) (by kernel_rfl) (fun _ _ _ h => h) (Or.inl ⟨by rfl, fun w hSw => by (try dsimp only at hSw); go_simp⟩) hS1 ?_
    simp only [Act.put, List.setIfInBounds_toArray, List.set_cons_zero, List.set_cons_succ]
    refine wpAnyH_take (i := 7) (oi := { dst := some 130, op := Go.Op.move (Go.Operand.tmp 0), type := 87, pos := "law.go:86", after := #[], guard := none }) (v := .pointer (some ⟨L, o, none⟩)) rfl (by kernel_rfl) (by kernel_rfl) (by kernel_rfl) (fun _ _ _ h => h) (Or.inl ⟨by rfl, fun w hSw => by (try dsimp only at hSw); go_simp⟩) hS1 ?_
    simp only [Act.put, List.setIfInBounds_toArray, List.set_cons_zero, List.set_cons_succ]
    refine wpAnyH_take (i := 8) (oi := { dst := some 131, op := Go.Op.nilCheck (Go.Operand.tmp 130), type := 0, pos := "law.go:86", after := #[{ on := 7, ground := Go.Ground.data }], guard := none }) (v := .pointer (some ⟨L, o, none⟩)) rfl (by kernel_rfl) (by kernel_rfl) (by kernel_rfl) (fun _ _ _ h => h) (Or.inl ⟨by rfl, fun w hSw => by (try dsimp only at hSw); go_simp⟩) hS1 ?_
    simp only [Act.put, List.setIfInBounds_toArray, List.set_cons_zero, List.set_cons_succ]
    refine wpAnyH_take (i := 9) (oi := { dst := some 132, op := Go.Op.fieldAddr 41 (Go.Operand.tmp 131) 1, type := 0, pos := "law.go:86", after := #[{ on := 8, ground := Go.Ground.data }], guard := none }) (v := .pointer (some ⟨L, o + 1, none⟩)) rfl (by kernel_rfl) (by kernel_rfl) (by kernel_rfl) (fun _ _ _ h => h) (Or.inl ⟨by rfl, fun w hSw => by (try dsimp only at hSw); go_simp⟩) hS1 ?_
    simp only [Act.put, List.setIfInBounds_toArray, List.set_cons_zero, List.set_cons_succ]
    refine wpAnyH_take (i := 10) (oi := { dst := some 133, op := Go.Op.fieldAddr 37 (Go.Operand.tmp 132) 3, type := 0, pos := "law.go:86", after := #[{ on := 9, ground := Go.Ground.data }], guard := none }) (v := .pointer (some ⟨L, o + 4, none⟩)) rfl (by kernel_rfl) (by kernel_rfl) (by kernel_rfl) (fun _ _ _ h => h) (Or.inl ⟨by rfl, fun w hSw => by (try dsimp only at hSw); go_simp⟩) hS1 ?_
    simp only [Act.put, List.setIfInBounds_toArray, List.set_cons_zero, List.set_cons_succ]
    refine wpAnyH_take (i := 11) (oi := { dst := some 134, op := Go.Op.load 5 (Go.Operand.tmp 133), type := 5, pos := "law.go:86", after := #[{ on := 10, ground := Go.Ground.data }], guard := none }) (v := .int .u8 (x.e : Nat)) rfl (by kernel_rfl) (by kernel_rfl) (by kernel_rfl) (fun _ _ _ h => h) (Or.inl ⟨by rfl, fun w hSw => by (try dsimp only at hSw); go_simp⟩) hS1 ?_
    simp only [Act.put, List.setIfInBounds_toArray, List.set_cons_zero, List.set_cons_succ]
    refine wpAnyH_take (i := 12) (oi := { dst := some 135, op := Go.Op.convert 5 35 (Go.Operand.tmp 134), type := 35, pos := "law.go:86", after := #[{ on := 11, ground := Go.Ground.data }], guard := none }) (v := .int .u64 (x.e : Nat)) rfl (by kernel_rfl) (by kernel_rfl) (by kernel_rfl) (fun _ _ _ h => h) (Or.inl ⟨by rfl, fun w hSw => by (try dsimp only at hSw); go_simp⟩) hS1 ?_
    simp only [Act.put, List.setIfInBounds_toArray, List.set_cons_zero, List.set_cons_succ]
    refine wpAnyH_take (i := 13) (oi := { dst := some 136, op := Go.Op.move (Go.Operand.tmp 0), type := 87, pos := "law.go:86", after := #[], guard := none }) (v := .pointer (some ⟨L, o, none⟩)) rfl (by kernel_rfl) (by kernel_rfl) (by kernel_rfl) (fun _ _ _ h => h) (Or.inl ⟨by rfl, fun w hSw => by (try dsimp only at hSw); go_simp⟩) hS1 ?_
    simp only [Act.put, List.setIfInBounds_toArray, List.set_cons_zero, List.set_cons_succ]
    refine wpAnyH_take (i := 14) (oi := { dst := some 137, op := Go.Op.nilCheck (Go.Operand.tmp 136), type := 0, pos := "law.go:86", after := #[{ on := 13, ground := Go.Ground.data }], guard := none }) (v := .pointer (some ⟨L, o, none⟩)) rfl (by kernel_rfl) (by kernel_rfl) (by kernel_rfl) (fun _ _ _ h => h) (Or.inl ⟨by rfl, fun w hSw => by (try dsimp only at hSw); go_simp⟩) hS1 ?_
    simp only [Act.put, List.setIfInBounds_toArray, List.set_cons_zero, List.set_cons_succ]
    refine wpAnyH_take (i := 15) (oi := { dst := some 138, op := Go.Op.fieldAddr 41 (Go.Operand.tmp 137) 1, type := 0, pos := "law.go:86", after := #[{ on := 14, ground := Go.Ground.data }], guard := none }) (v := .pointer (some ⟨L, o + 1, none⟩)) rfl (by kernel_rfl) (by kernel_rfl) (by kernel_rfl) (fun _ _ _ h => h) (Or.inl ⟨by rfl, fun w hSw => by (try dsimp only at hSw); go_simp⟩) hS1 ?_
    simp only [Act.put, List.setIfInBounds_toArray, List.set_cons_zero, List.set_cons_succ]
    refine wpAnyH_take (i := 16) (oi := { dst := some 139, op := Go.Op.fieldAddr 37 (Go.Operand.tmp 138) 4, type := 0, pos := "law.go:86", after := #[{ on := 15, ground := Go.Ground.data }], guard := none }) (v := .pointer (some ⟨L, o + 5, none⟩)) rfl (by kernel_rfl) (by kernel_rfl) (by kernel_rfl) (fun _ _ _ h => h) (Or.inl ⟨by rfl, fun w hSw => by (try dsimp only at hSw); go_simp⟩) hS1 ?_
    simp only [Act.put, List.setIfInBounds_toArray, List.set_cons_zero, List.set_cons_succ]
    refine wpAnyH_take (i := 17) (oi := { dst := some 140, op := Go.Op.load 35 (Go.Operand.tmp 139), type := 35, pos := "law.go:86", after := #[{ on := 16, ground := Go.Ground.data }], guard := none }) (v := .int .u64 (x.wd : Nat)) rfl (by kernel_rfl) (by kernel_rfl) (by kernel_rfl) (fun _ _ _ h => h) (Or.inl ⟨by rfl, fun w hSw => by (try dsimp only at hSw); go_simp⟩) hS1 ?_
    simp only [Act.put, List.setIfInBounds_toArray, List.set_cons_zero, List.set_cons_succ]
    refine wpAnyH_ready (rs := [18]) (by kernel_rfl) (by simp) (AllReadyH.cons (o := { dst := some 141, op := Go.Op.buildSlice 44 1 #[(0, Go.Operand.tmp 140)], type := 44, pos := "law.go:86", after := #[{ on := 17, ground := Go.Ground.data }], guard := none }) rfl (fun K hK => ?_) AllReadyH.nil)
    go_simp
    replace bl : Below w5.heap.size w5 (w5.alloc (.cells #[.int .u64 (x.wd : Nat)] 35)).drew.drew := (alloc_below _ _).drew.drew
    refine hK.out _ _ (HC.out _ bl) (fun hS1 => ?_)
    (try simp only [Act.put, List.setIfInBounds_toArray, List.set_cons_zero, List.set_cons_succ])
    clear hK K
    refine wpAnyH_ready (rs := [19]) (by kernel_rfl) (by simp) (AllReadyH.cons (o := { dst := some 142, op := Go.Op.call { callee := Go.Callee.value (Go.Operand.func 19), args := #[Go.Operand.tmp 127, Go.Operand.tmp 128, Go.Operand.tmp 129, Go.Operand.tmp 135, Go.Operand.tmp 141], argTypes := #[23, 3, 3, 35, 44] }, type := 38, pos := "law.go:86", after := #[{ on := 4, ground := Go.Ground.data }, { on := 5, ground := Go.Ground.data }, { on := 6, ground := Go.Ground.data }, { on := 12, ground := Go.Ground.data }, { on := 18, ground := Go.Ground.data }], guard := none }) rfl (fun K hK => ?_) AllReadyH.nil)
    go_simp
    go_at_call 19
    with_reducible refine Calls.mono C19.out ?_
    rintro e w6 ⟨P, R, c, rfl, n1, n2, n3, n4, n5⟩
    (try simp only [])
    obtain ⟨a1, a2, a3⟩ := HM.out _ _ _ _ n1 n2 n3 n4 n5
    replace bl := seq_below bl n1.bel
    clear n1 n2 n3 n4 n5
    refine hK.out _ _ (HC.out _ bl) (fun hS1 => ?_)
    (try simp only [Act.put, List.setIfInBounds_toArray, List.set_cons_zero, List.set_cons_succ])
    clear hK K
    refine wpAnyH_take (i := 20) (oi := { dst := some 143, op := Go.Op.nilCheck (Go.Operand.tmp 123), type := 0, pos := "law.go:86", after := #[{ on := 0, ground := Go.Ground.data }, { on := 0, ground := Go.Ground.phase }, { on := 1, ground := Go.Ground.phase }, { on := 2, ground := Go.Ground.phase }, { on := 3, ground := Go.Ground.phase }, { on := 4, ground := Go.Ground.phase }, { on := 5, ground := Go.Ground.phase }, { on := 6, ground := Go.Ground.phase }, { on := 7, ground := Go.Ground.phase }, { on := 8, ground := Go.Ground.phase }, { on := 9, ground := Go.Ground.phase }, { on := 10, ground := Go.Ground.phase }, { on := 11, ground := Go.Ground.phase }, { on := 12, ground := Go.Ground.phase }, { on := 13, ground := Go.Ground.phase }, { on := 14, ground := Go.Ground.phase }, { on := 15, ground := Go.Ground.phase }, { on := 16, ground := Go.Ground.phase }, { on := 17, ground := Go.Ground.phase }, { on := 18, ground := Go.Ground.phase }, { on := 19, ground := Go.Ground.phase }], guard := none }) (v := .pointer (some ⟨L, o, none⟩)) rfl (by kernel_rfl) (by kernel_rfl) (by kernel_rfl) (fun _ _ _ h => h) (Or.inl ⟨by rfl, fun w hSw => by (try dsimp only at hSw); go_simp⟩) hS1 ?_
    simp only [Act.put, List.setIfInBounds_toArray, List.set_cons_zero, List.set_cons_succ]
    refine wpAnyH_take (i := 21) (oi := { dst := some 144, op := Go.Op.fieldAddr 41 (Go.Operand.tmp 143) 3, type := 0, pos := "law.go:86", after := #[{ on := 20, ground := Go.Ground.data }, { on := 0, ground := Go.Ground.phase }, { on := 1, ground := Go.Ground.phase }, { on := 2, ground := Go.Ground.phase }, { on := 3, ground := Go.Ground.phase }, { on := 4, ground := Go.Ground.phase }, { on := 5, ground := Go.Ground.phase }, { on := 6, ground := Go.Ground.phase }, { on := 7, ground := Go.Ground.phase }, { on := 8, ground := Go.Ground.phase }, { on := 9, ground := Go.Ground.phase }, { on := 10, ground := Go.Ground.phase }, { on := 11, ground := Go.Ground.phase }, { on := 12, ground := Go.Ground.phase }, { on := 13, ground := Go.Ground.phase }, { on := 14, ground := Go.Ground.phase }, { on := 15, ground := Go.Ground.phase }, { on := 16, ground := Go.Ground.phase }, { on := 17, ground := Go.Ground.phase }, { on := 18, ground := Go.Ground.phase }, { on := 19, ground := Go.Ground.phase }], guard := none }) (v := .pointer (some ⟨L, o + 7, none⟩)) rfl (by kernel_rfl) (by kernel_rfl) (by kernel_rfl) (fun _ _ _ h => h) (Or.inl ⟨by rfl, fun w hSw => by (try dsimp only at hSw); go_simp⟩) hS1 ?_
    simp only [Act.put, List.setIfInBounds_toArray, List.set_cons_zero, List.set_cons_succ]
    refine wpAnyH_ready (rs := [22]) (by kernel_rfl) (by simp) (AllReadyH.cons (o := { dst := none, op := Go.Op.store 38 (Go.Operand.tmp 144) (Go.Operand.tmp 142), type := 0, pos := "law.go:86", after := #[{ on := 21, ground := Go.Ground.data }, { on := 19, ground := Go.Ground.data }, { on := 19, ground := Go.Ground.chain }, { on := 0, ground := Go.Ground.phase }, { on := 1, ground := Go.Ground.phase }, { on := 2, ground := Go.Ground.phase }, { on := 3, ground := Go.Ground.phase }, { on := 4, ground := Go.Ground.phase }, { on := 5, ground := Go.Ground.phase }, { on := 6, ground := Go.Ground.phase }, { on := 7, ground := Go.Ground.phase }, { on := 8, ground := Go.Ground.phase }, { on := 9, ground := Go.Ground.phase }, { on := 10, ground := Go.Ground.phase }, { on := 11, ground := Go.Ground.phase }, { on := 12, ground := Go.Ground.phase }, { on := 13, ground := Go.Ground.phase }, { on := 14, ground := Go.Ground.phase }, { on := 15, ground := Go.Ground.phase }, { on := 16, ground := Go.Ground.phase }, { on := 17, ground := Go.Ground.phase }, { on := 18, ground := Go.Ground.phase }, { on := 19, ground := Go.Ground.phase }], guard := none }) rfl (fun K hK => ?_) AllReadyH.nil)
    go_simp
    refine hK.out _ _ (HC2.out _ _ bl) (fun hS1 => ?_)
    (try simp only [Act.put, List.setIfInBounds_toArray, List.set_cons_zero, List.set_cons_succ])
    clear hK K
    refine wpAnyH_done (by kernel_rfl) ?_ _
    clear hS1 a1 a2
    have q7 := a3.out.1.cell (set_eq ((CN.out.hi 7 (by omega)).trans H7.out))
    go_wp2
    go_ret
    rw [HC5.out]
    exact ⟨rfl, _, _, a3.out⟩
  · rw [hrc] at p2
    have c19 := c19g 2 0 (by unfold Wo.kind; simp [hrc]) (by unfold Wo.arity; simp [hrc])
    have hsr : SrW (w5.alloc (.cells #[.int .u64 (x.wd : Nat)] 35)).drew.drew (some ⟨w5.heap.size, 0, none⟩) [x.wd] := one_word w5 x.wd
    have C19 := hide (c19 _ _ hsr)
    clear hsr c19 c19g hmay hok hK hb3 har ha0 ha8 hsz hf p1 p3 hw1 hne
    go_upto_region 17 with fail
    clear p2 p4 p5 p7 y7 l0 l1 l2 l3 l4 l5
    have bl : Below w5.heap.size w5 w5.drew.drew := (Below.refl _ _).drew.drew
    have hS0 := HC.out _ bl
    refine wp_region_held_drew (S := fun wr => wr.cell? ⟨B, 0, none⟩ = some (.int .i64 (K.S : Nat)) ∧ wr.cell? ⟨B, 1, none⟩ = some (.int .i64 K.a) ∧ wr.cell? ⟨B, 2, none⟩ = some (.int .i64 (K.C : Nat)) ∧ wr.cell? ⟨B, 3, none⟩ = some (.int .i64 (K.D : Nat)) ∧ wr.cell? ⟨B, 4, none⟩ = some (.int .i64 K.g) ∧ wr.cell? ⟨B, 5, none⟩ = some (.int .i64 K.k) ∧ wr.cell? ⟨L, o + 4, none⟩ = some (.int .u8 (x.e : Nat)) ∧ wr.cell? ⟨L, o + 5, none⟩ = some (.int .u64 (x.wd : Nat))) (by kernel_rfl) hS0 (fun hS1 => ?_)
    clear hS0
    refine wpAnyH_take (i := 0) (oi := { dst := some 123, op := Go.Op.move (Go.Operand.tmp 0), type := 87, pos := "law.go:86", after := #[], guard := none }) (v := .pointer (some ⟨L, o, none⟩)) rfl (by kernel_rfl) (by kernel_rfl) (by kernel_rfl) (fun _ _ _ h => h) (Or.inl ⟨by rfl, fun w hSw => by (try dsimp only at hSw); go_simp⟩) hS1 ?_
    simp only [Act.put, List.setIfInBounds_toArray, List.set_cons_zero, List.set_cons_succ]
    refine wpAnyH_take (i := 1) (oi := { dst := some 124, op := Go.Op.move (Go.Operand.tmp 1), type := 27, pos := "law.go:86", after := #[], guard := none }) (v := .pointer (some ⟨B, 0, none⟩)) rfl (by kernel_rfl) (by kernel_rfl) (by kernel_rfl) (fun _ _ _ h => h) (Or.inl ⟨by rfl, fun w hSw => by (try dsimp only at hSw); go_simp⟩) hS1 ?_
    simp only [Act.put, List.setIfInBounds_toArray, List.set_cons_zero, List.set_cons_succ]
    refine wpAnyH_take (i := 2) (oi := { dst := some 125, op := Go.Op.nilCheck (Go.Operand.tmp 124), type := 0, pos := "law.go:86", after := #[{ on := 1, ground := Go.Ground.data }], guard := none }) (v := .pointer (some ⟨B, 0, none⟩)) rfl (by kernel_rfl) (by kernel_rfl) (by kernel_rfl) (fun _ _ _ h => h) (Or.inl ⟨by rfl, fun w hSw => by (try dsimp only at hSw); go_simp⟩) hS1 ?_
    simp only [Act.put, List.setIfInBounds_toArray, List.set_cons_zero, List.set_cons_succ]
    refine wpAnyH_take (i := 3) (oi := { dst := some 126, op := Go.Op.fieldAddr 31 (Go.Operand.tmp 125) 0, type := 0, pos := "law.go:86", after := #[{ on := 2, ground := Go.Ground.data }], guard := none }) (v := .pointer (some ⟨B, 0, none⟩)) rfl (by kernel_rfl) (by kernel_rfl) (by kernel_rfl) (fun _ _ _ h => h) (Or.inl ⟨by rfl, fun w hSw => by (try dsimp only at hSw); go_simp⟩) hS1 ?_
    simp only [Act.put, List.setIfInBounds_toArray, List.set_cons_zero, List.set_cons_succ]
    refine wpAnyH_take (i := 4) (oi := { dst := some 127, op := Go.Op.load 23 (Go.Operand.tmp 126), type := 23, pos := "law.go:86", after := #[{ on := 3, ground := Go.Ground.data }], guard := none }) (v := .agg #[.int .i64 (K.S : Nat), .int .i64 K.a, .int .i64 (K.C : Nat), .int .i64 (K.D : Nat), .int .i64 K.g, .int .i64 K.k]) rfl (by kernel_rfl) (by kernel_rfl) (by kernel_rfl) (fun _ _ _ h => h) (Or.inl ⟨by rfl, fun w hSw => by (try dsimp only at hSw); go_simp⟩) hS1 ?_
    simp only [Act.put, List.setIfInBounds_toArray, List.set_cons_zero, List.set_cons_succ]
    refine wpAnyH_take (i := 5) (oi := { dst := some 128, op := Go.Op.move (Go.Operand.tmp 7), type := 3, pos := "law.go:86", after := #[], guard := none }) (v := .int .i64 2) rfl (by kernel_rfl) (by kernel_rfl) (by kernel_rfl) (fun _ _ _ h => h) (Or.inl ⟨by rfl, fun w hSw => by (try dsimp only at hSw); go_simp⟩) hS1 ?_
    simp only [Act.put, List.setIfInBounds_toArray, List.set_cons_zero, List.set_cons_succ]
    refine wpAnyH_take (i := 6) (oi := { dst := some 129, op := Go.Op.move (Go.Operand.tmp 8), type := 3, pos := "law.go:86", after := #[], guard := none }) (v := .int .i64 0) rfl (by kernel_rfl) (by kernel_rfl) (by kernel_rfl) (fun _ _ _ h => h) (Or.inl ⟨by rfl, fun w hSw => by (try dsimp only at hSw); go_simp⟩) hS1 ?_
    simp only [Act.put, List.setIfInBounds_toArray, List.set_cons_zero, List.set_cons_succ]
    refine wpAnyH_take (i := 7) (oi := { dst := some 130, op := Go.Op.move (Go.Operand.tmp 0), type := 87, pos := "law.go:86", after := #[], guard := none }) (v := .pointer (some ⟨L, o, none⟩)) rfl (by kernel_rfl) (by kernel_rfl) (by kernel_rfl) (fun _ _ _ h => h) (Or.inl ⟨by rfl, fun w hSw => by (try dsimp only at hSw); go_simp⟩) hS1 ?_
    simp only [Act.put, List.setIfInBounds_toArray, List.set_cons_zero, List.set_cons_succ]
    refine wpAnyH_take (i := 8) (oi := { dst := some 131, op := Go.Op.nilCheck (Go.Operand.tmp 130), type := 0, pos := "law.go:86", after := #[{ on := 7, ground := Go.Ground.data }], guard := none }) (v := .pointer (some ⟨L, o, none⟩)) rfl (by kernel_rfl) (by kernel_rfl) (by kernel_rfl) (fun _ _ _ h => h) (Or.inl ⟨by rfl, fun w hSw => by (try dsimp only at hSw); go_simp⟩) hS1 ?_
    simp only [Act.put, List.setIfInBounds_toArray, List.set_cons_zero, List.set_cons_succ]
    refine wpAnyH_take (i := 9) (oi := { dst := some 132, op := Go.Op.fieldAddr 41 (Go.Operand.tmp 131) 1, type := 0, pos := "law.go:86", after := #[{ on := 8, ground := Go.Ground.data }], guard := none }) (v := .pointer (some ⟨L, o + 1, none⟩)) rfl (by kernel_rfl) (by kernel_rfl) (by kernel_rfl) (fun _ _ _ h => h) (Or.inl ⟨by rfl, fun w hSw => by (try dsimp only at hSw); go_simp⟩) hS1 ?_
    simp only [Act.put, List.setIfInBounds_toArray, List.set_cons_zero, List.set_cons_succ]
    refine wpAnyH_take (i := 10) (oi := { dst := some 133, op := Go.Op.fieldAddr 37 (Go.Operand.tmp 132) 3, type := 0, pos := "law.go:86", after := #[{ on := 9, ground := Go.Ground.data }], guard := none }) (v := .pointer (some ⟨L, o + 4, none⟩)) rfl (by kernel_rfl) (by kernel_rfl) (by kernel_rfl) (fun _ _ _ h => h) (Or.inl ⟨by rfl, fun w hSw => by (try dsimp only at hSw); go_simp⟩) hS1 ?_
    simp only [Act.put, List.setIfInBounds_toArray, List.set_cons_zero, List.set_cons_succ]
    refine wpAnyH_take (i := 11) (oi := { dst := some 134, op := Go.Op.load 5 (Go.Operand.tmp 133), type := 5, pos := "law.go:86", after := #[{ on := 10, ground := Go.Ground.data }], guard := none }) (v := .int .u8 (x.e : Nat)) rfl (by kernel_rfl) (by kernel_rfl) (by kernel_rfl) (fun _ _ _ h => h) (Or.inl ⟨by rfl, fun w hSw => by (try dsimp only at hSw); go_simp⟩) hS1 ?_
    simp only [Act.put, List.setIfInBounds_toArray, List.set_cons_zero, List.set_cons_succ]
    refine wpAnyH_take (i := 12) (oi := { dst := some 135, op := Go.Op.convert 5 35 (Go.Operand.tmp 134), type := 35, pos := "law.go:86", after := #[{ on := 11, ground := Go.Ground.data }], guard := none }) (v := .int .u64 (x.e : Nat)) rfl (by kernel_rfl) (by kernel_rfl) (by kernel_rfl) (fun _ _ _ h => h) (Or.inl ⟨by rfl, fun w hSw => by (try dsimp only at hSw); go_simp⟩) hS1 ?_
    simp only [Act.put, List.setIfInBounds_toArray, List.set_cons_zero, List.set_cons_succ]
    refine wpAnyH_take (i := 13) (oi := { dst := some 136, op := Go.Op.move (Go.Operand.tmp 0), type := 87, pos := "law.go:86", after := #[], guard := none }) (v := .pointer (some ⟨L, o, none⟩)) rfl (by kernel_rfl) (by kernel_rfl) (by kernel_rfl) (fun _ _ _ h => h) (Or.inl ⟨by rfl, fun w hSw => by (try dsimp only at hSw); go_simp⟩) hS1 ?_
    simp only [Act.put, List.setIfInBounds_toArray, List.set_cons_zero, List.set_cons_succ]
    refine wpAnyH_take (i := 14) (oi := { dst := some 137, op := Go.Op.nilCheck (Go.Operand.tmp 136), type := 0, pos := "law.go:86", after := #[{ on := 13, ground := Go.Ground.data }], guard := none }) (v := .pointer (some ⟨L, o, none⟩)) rfl (by kernel_rfl) (by kernel_rfl) (by kernel_rfl) (fun _ _ _ h => h) (Or.inl ⟨by rfl, fun w hSw => by (try dsimp only at hSw); go_simp⟩) hS1 ?_
    simp only [Act.put, List.setIfInBounds_toArray, List.set_cons_zero, List.set_cons_succ]
    refine wpAnyH_take (i := 15) (oi := { dst := some 138, op := Go.Op.fieldAddr 41 (Go.Operand.tmp 137) 1, type := 0, pos := "law.go:86", after := #[{ on := 14, ground := Go.Ground.data }], guard := none }) (v := .pointer (some ⟨L, o + 1, none⟩)) rfl (by kernel_rfl) (by kernel_rfl) (by kernel_rfl) (fun _ _ _ h => h) (Or.inl ⟨by rfl, fun w hSw => by (try dsimp only at hSw); go_simp⟩) hS1 ?_
    simp only [Act.put, List.setIfInBounds_toArray, List.set_cons_zero, List.set_cons_succ]
    refine wpAnyH_take (i := 16) (oi := { dst := some 139, op := Go.Op.fieldAddr 37 (Go.Operand.tmp 138) 4, type := 0, pos := "law.go:86", after := #[{ on := 15, ground := Go.Ground.data }], guard := none }) (v := .pointer (some ⟨L, o + 5, none⟩)) rfl (by kernel_rfl) (by kernel_rfl) (by kernel_rfl) (fun _ _ _ h => h) (Or.inl ⟨by rfl, fun w hSw => by (try dsimp only at hSw); go_simp⟩) hS1 ?_
    simp only [Act.put, List.setIfInBounds_toArray, List.set_cons_zero, List.set_cons_succ]
    refine wpAnyH_take (i := 17) (oi := { dst := some 140, op := Go.Op.load 35 (Go.Operand.tmp 139), type := 35, pos := "law.go:86", after := #[{ on := 16, ground := Go.Ground.data }], guard := none }) (v := .int .u64 (x.wd : Nat)) rfl (by kernel_rfl) (by kernel_rfl) (by kernel_rfl) (fun _ _ _ h => h) (Or.inl ⟨by rfl, fun w hSw => by (try dsimp only at hSw); go_simp⟩) hS1 ?_
    simp only [Act.put, List.setIfInBounds_toArray, List.set_cons_zero, List.set_cons_succ]
    refine wpAnyH_ready (rs := [18]) (by kernel_rfl) (by simp) (AllReadyH.cons (o := { dst := some 141, op := Go.Op.buildSlice 44 1 #[(0, Go.Operand.tmp 140)], type := 44, pos := "law.go:86", after := #[{ on := 17, ground := Go.Ground.data }], guard := none }) rfl (fun K hK => ?_) AllReadyH.nil)
    go_simp
    replace bl : Below w5.heap.size w5 (w5.alloc (.cells #[.int .u64 (x.wd : Nat)] 35)).drew.drew := (alloc_below _ _).drew.drew
    refine hK.out _ _ (HC.out _ bl) (fun hS1 => ?_)
    (try simp only [Act.put, List.setIfInBounds_toArray, List.set_cons_zero, List.set_cons_succ])
    clear hK K
    refine wpAnyH_ready (rs := [19]) (by kernel_rfl) (by simp) (AllReadyH.cons (o := { dst := some 142, op := Go.Op.call { callee := Go.Callee.value (Go.Operand.func 19), args := #[Go.Operand.tmp 127, Go.Operand.tmp 128, Go.Operand.tmp 129, Go.Operand.tmp 135, Go.Operand.tmp 141], argTypes := #[23, 3, 3, 35, 44] }, type := 38, pos := "law.go:86", after := #[{ on := 4, ground := Go.Ground.data }, { on := 5, ground := Go.Ground.data }, { on := 6, ground := Go.Ground.data }, { on := 12, ground := Go.Ground.data }, { on := 18, ground := Go.Ground.data }], guard := none }) rfl (fun K hK => ?_) AllReadyH.nil)
    go_simp
    go_at_call 19
    with_reducible refine Calls.mono C19.out ?_
    rintro e w6 ⟨P, R, c, rfl, n1, n2, n3, n4, n5⟩
    (try simp only [])
    obtain ⟨a1, a2, a3⟩ := HM.out _ _ _ _ n1 n2 n3 n4 n5
    replace bl := seq_below bl n1.bel
    clear n1 n2 n3 n4 n5
    refine hK.out _ _ (HC.out _ bl) (fun hS1 => ?_)
    (try simp only [Act.put, List.setIfInBounds_toArray, List.set_cons_zero, List.set_cons_succ])
    clear hK K
    refine wpAnyH_take (i := 20) (oi := { dst := some 143, op := Go.Op.nilCheck (Go.Operand.tmp 123), type := 0, pos := "law.go:86", after := #[{ on := 0, ground := Go.Ground.data }, { on := 0, ground := Go.Ground.phase }, { on := 1, ground := Go.Ground.phase }, { on := 2, ground := Go.Ground.phase }, { on := 3, ground := Go.Ground.phase }, { on := 4, ground := Go.Ground.phase }, { on := 5, ground := Go.Ground.phase }, { on := 6, ground := Go.Ground.phase }, { on := 7, ground := Go.Ground.phase }, { on := 8, ground := Go.Ground.phase }, { on := 9, ground := Go.Ground.phase }, { on := 10, ground := Go.Ground.phase }, { on := 11, ground := Go.Ground.phase }, { on := 12, ground := Go.Ground.phase }, { on := 13, ground := Go.Ground.phase }, { on := 14, ground := Go.Ground.phase }, { on := 15, ground := Go.Ground.phase }, { on := 16, ground := Go.Ground.phase }, { on := 17, ground := Go.Ground.phase }, { on := 18, ground := Go.Ground.phase }, { on := 19, ground := Go.Ground.phase }], guard := none }) (v := .pointer (some ⟨L, o, none⟩)) rfl (by kernel_rfl) (by kernel_rfl) (by kernel_rfl) (fun _ _ _ h => h) (Or.inl ⟨by rfl, fun w hSw => by (try dsimp only at hSw); go_simp⟩) hS1 ?_
    simp only [Act.put, List.setIfInBounds_toArray, List.set_cons_zero, List.set_cons_succ]
    refine wpAnyH_take (i := 21) (oi := { dst := some 144, op := Go.Op.fieldAddr 41 (Go.Operand.tmp 143) 3, type := 0, pos := "law.go:86", after := #[{ on := 20, ground := Go.Ground.data }, { on := 0, ground := Go.Ground.phase }, { on := 1, ground := Go.Ground.phase }, { on := 2, ground := Go.Ground.phase }, { on := 3, ground := Go.Ground.phase }, { on := 4, ground := Go.Ground.phase }, { on := 5, ground := Go.Ground.phase }, { on := 6, ground := Go.Ground.phase }, { on := 7, ground := Go.Ground.phase }, { on := 8, ground := Go.Ground.phase }, { on := 9, ground := Go.Ground.phase }, { on := 10, ground := Go.Ground.phase }, { on := 11, ground := Go.Ground.phase }, { on := 12, ground := Go.Ground.phase }, { on := 13, ground := Go.Ground.phase }, { on := 14, ground := Go.Ground.phase }, { on := 15, ground := Go.Ground.phase }, { on := 16, ground := Go.Ground.phase }, { on := 17, ground := Go.Ground.phase }, { on := 18, ground := Go.Ground.phase }, { on := 19, ground := Go.Ground.phase }], guard := none }) (v := .pointer (some ⟨L, o + 7, none⟩)) rfl (by kernel_rfl) (by kernel_rfl) (by kernel_rfl) (fun _ _ _ h => h) (Or.inl ⟨by rfl, fun w hSw => by (try dsimp only at hSw); go_simp⟩) hS1 ?_
    simp only [Act.put, List.setIfInBounds_toArray, List.set_cons_zero, List.set_cons_succ]
    refine wpAnyH_ready (rs := [22]) (by kernel_rfl) (by simp) (AllReadyH.cons (o := { dst := none, op := Go.Op.store 38 (Go.Operand.tmp 144) (Go.Operand.tmp 142), type := 0, pos := "law.go:86", after := #[{ on := 21, ground := Go.Ground.data }, { on := 19, ground := Go.Ground.data }, { on := 19, ground := Go.Ground.chain }, { on := 0, ground := Go.Ground.phase }, { on := 1, ground := Go.Ground.phase }, { on := 2, ground := Go.Ground.phase }, { on := 3, ground := Go.Ground.phase }, { on := 4, ground := Go.Ground.phase }, { on := 5, ground := Go.Ground.phase }, { on := 6, ground := Go.Ground.phase }, { on := 7, ground := Go.Ground.phase }, { on := 8, ground := Go.Ground.phase }, { on := 9, ground := Go.Ground.phase }, { on := 10, ground := Go.Ground.phase }, { on := 11, ground := Go.Ground.phase }, { on := 12, ground := Go.Ground.phase }, { on := 13, ground := Go.Ground.phase }, { on := 14, ground := Go.Ground.phase }, { on := 15, ground := Go.Ground.phase }, { on := 16, ground := Go.Ground.phase }, { on := 17, ground := Go.Ground.phase }, { on := 18, ground := Go.Ground.phase }, { on := 19, ground := Go.Ground.phase }], guard := none }) rfl (fun K hK => ?_) AllReadyH.nil)
    go_simp
    refine hK.out _ _ (HC2.out _ _ bl) (fun hS1 => ?_)
    (try simp only [Act.put, List.setIfInBounds_toArray, List.set_cons_zero, List.set_cons_succ])
    clear hK K
    refine wpAnyH_done (by kernel_rfl) ?_ _
    clear hS1 a1 a2
    have q7 := a3.out.1.cell (set_eq ((CN.out.hi 7 (by omega)).trans H7.out))
    go_wp2
    go_ret
    rw [HC5.out]
    exact ⟨rfl, _, _, a3.out⟩
end Go.Proofs.YtjbjijkkmlehgaaDoor
/- A header that is unpacked in a drawn region. -/
namespace Go.Proofs.YtjbjijkkmlehgaaDoor
open Go.RowKit
open Hh (WT wordOf okW Hr)
open Mm (IsWords)
set_option linter.unusedVariables false

theorem word_cell {w : World} {R j v : Nat} {X : List Nat} (h : IsWords w R X) (hj : j < X.length) (hv : X.getD j 0 = v) : w.cell? ⟨R, j, none⟩ = some (.int .u64 (v : Nat)) := by rw [← hv]; exact Mm.words_at h j hj
structure HdN (w wr : World) (R : Nat) : Prop where
  hd : Hh.IsHd wr R 0 0 false 0 0 0
  new : w.heap.size ≤ R
theorem HdN.below {w wr w' : World} {R : Nat} (h : HdN w wr R) (b : Below wr.heap.size wr w') : HdN w w' R := ⟨h.hd.below b, h.new⟩
theorem HdN.ofNew {w wr : World} (bl : Below w.heap.size w wr) : HdN w (wr.alloc (.cells #[.int .i64 0, .int .i64 0, .bool false, .int .i64 0, .int .i64 0, .int .i64 0] 48)) wr.heap.size := ⟨Hh.hd_new wr 0 0 false 0 0 0, bl.size⟩
theorem HdN.ofNewD (w : World) : HdN w (w.alloc (.cells #[.int .i64 0, .int .i64 0, .bool false, .int .i64 0, .int .i64 0, .int .i64 0] 48)).drew w.heap.size := ⟨Hh.hd_new w 0 0 false 0 0 0, Nat.le_refl _⟩
theorem HdN.cells {w wr : World} {R : Nat} (h : HdN w wr R) : (wr.cell? ⟨R, 0, none⟩ = some (.int .i64 0) ∧ wr.cell? ⟨R, 1, none⟩ = some (.int .i64 0) ∧ wr.cell? ⟨R, 2, none⟩ = some (.bool false) ∧ wr.cell? ⟨R, 3, none⟩ = some (.int .i64 0) ∧ wr.cell? ⟨R, 4, none⟩ = some (.int .i64 0) ∧ wr.cell? ⟨R, 5, none⟩ = some (.int .i64 0)) ∧ ∀ i, wr.frozen? ⟨R, i, none⟩ = false := ⟨h.hd.cells, fun i => h.hd.free i⟩
theorem HdN.six {w wr : World} {R : Nat} (h : HdN w wr R) (bl : Below w.heap.size w wr) (v0 v1 v2 v3 v4 v5 : Value) : Below w.heap.size w ((((((wr.setCell ⟨R, 0, none⟩ v0).setCell ⟨R, 1, none⟩ v1).setCell ⟨R, 2, none⟩ v2).setCell ⟨R, 3, none⟩ v3).setCell ⟨R, 4, none⟩ v4).setCell ⟨R, 5, none⟩ v5) :=
  (((((bl.setCell h.new v0).setCell h.new v1).setCell h.new v2).setCell h.new v3).setCell h.new v4).setCell h.new v5
/-- A slot's header, off the words. -/
theorem unp_ok {W : Nat} (hW : W < 18446744073709551616) (h : okW W = true) : ∃ (m : Int) (g : Bool) (a n s : Int), n = (genW W : Nat) ∧ ∀ w, Calls Tryd.prog 15 #[.int .u64 (W : Nat)] w fun e w' => e = .returned (.tuple #[.agg #[.int .i64 (kdW W : Nat), .int .i64 m, .bool g, .int .i64 a, .int .i64 n, .int .i64 s], .bool true]) ∧ Below w.heap.size w w' := by
  obtain ⟨K, M, g, A, N, S, hr, rfl⟩ := Hh.okW_parts hW h
  have e1 : kdW (wordOf K M g.toNat A N S) = K := kd_word g hr
  have e2 : genW (wordOf K M g.toNat A N S) = N := by unfold genW; rw [h, if_pos rfl]; exact (Hh.word_parts g hr).2.2.2.2.2.1
  rw [e1, e2]
  exact ⟨_, g, _, _, _, rfl, fun w => Hh.runpack_word g hr w⟩
end Go.Proofs.YtjbjijkkmlehgaaDoor
