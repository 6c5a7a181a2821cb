/- Layer 16: the program's Call, Walk and Writes. -/
import Derived.Test.YtfllkacebhcbdaaO1
namespace Go.Proofs.Ytfllkacebhcbdaa
open Go.RowKit

theorem heap_put {w : World} {g o : Nat} {cur : Array Value} {e : TypeId} {fz : Nat × Nat} (h : w.heap[g]? = some (.cells cur e fz)) (v : Value) : (w.setCell ⟨g, o, none⟩ v).heap[g]? = some (.cells (cur.setIfInBounds o v) e fz) := by
  have hlt := lt_of_block h
  have h' : w.heap[g] = .cells cur e fz := by simpa [Array.getElem?_eq_getElem hlt] using h
  show (w.heap.modify g _)[g]? = _
  simp [Array.getElem?_modify, h', Array.getElem?_eq_getElem hlt]
theorem heap_side {w : World} {g o b : Nat} (hne : b ≠ g) (v : Value) : (w.setCell ⟨g, o, none⟩ v).heap[b]? = w.heap[b]? := Below.heap_setCell _ _ _ _ hne
theorem call_end {w : World} {g B : Nat} {x0 x1 x2 x3 x4 : Value} {e : TypeId} {fz : Nat × Nat} (h : w.heap[g]? = some (.cells #[x0, x1, x2, x3, x4] e fz)) (hg : B ≤ g) {w0 : World} (b : Below B w0 w) (u0 u1 u2 u3 u4 : Value) :
    (((((w.setCell ⟨g, 0, none⟩ u0).setCell ⟨g, 1, none⟩ u1).setCell ⟨g, 2, none⟩ u2).setCell ⟨g, 3, none⟩ u3).setCell ⟨g, 4, none⟩ u4).heap[g]? = some (.cells #[u0, u1, u2, u3, u4] e fz) ∧
    Below B w0 (((((w.setCell ⟨g, 0, none⟩ u0).setCell ⟨g, 1, none⟩ u1).setCell ⟨g, 2, none⟩ u2).setCell ⟨g, 3, none⟩ u3).setCell ⟨g, 4, none⟩ u4) := by
  refine ⟨?_, ((((b.setCell (p := ⟨g, 0, none⟩) hg _).setCell (p := ⟨g, 1, none⟩) hg _).setCell (p := ⟨g, 2, none⟩) hg _).setCell (p := ⟨g, 3, none⟩) hg _).setCell (p := ⟨g, 4, none⟩) hg _⟩
  have := heap_put (o := 4) (heap_put (o := 3) (heap_put (o := 2) (heap_put (o := 1) (heap_put (o := 0) h u0) u1) u2) u3) u4
  simpa using this
theorem five_cells {w : World} {g : Nat} {x0 x1 x2 x3 x4 : Value} {e : TypeId} (h : w.heap[g]? = some (.cells #[x0, x1, x2, x3, x4] e (0, 0))) : w.cell? ⟨g, 0, none⟩ = some x0 ∧ w.cell? ⟨g, 1, none⟩ = some x1 ∧ w.cell? ⟨g, 2, none⟩ = some x2 ∧ w.cell? ⟨g, 3, none⟩ = some x3 ∧ w.cell? ⟨g, 4, none⟩ = some x4 := by simp [World.cell?, h]
theorem cells_free {w : World} {g : Nat} {c : Array Value} {e : TypeId} (h : w.heap[g]? = some (.cells c e (0, 0))) (i : Nat) : w.frozen? ⟨g, i, none⟩ = false := by simp [World.frozen?, h]
structure Arg3 where
  of : Int
  cl : Int
  raw : Nat
abbrev Arg3.v (a : Arg3) : List Value := [.int .i64 a.of, .int .i64 a.cl, .int .u64 (a.raw : Nat)]
def cnF (kd n : Int) : Int := if 1 ≤ kd ∧ kd ≤ 10 then n else 0
def chF (kd : Int) (h : Nat) : Nat := if 2 ≤ kd ∧ kd ≤ 10 then h else 0
def cxF (kd : Int) (h : Nat) : Nat := if kd = 3 ∨ kd = 5 ∨ kd = 7 then h else 0
def cyF (kd : Int) (h : Nat) : Nat := if kd = 5 then h else 0
theorem op_cells {w : World} {B : Nat} {kd n o1 c1 o2 c2 o3 c3 : Int} {r1 r2 r3 : Nat} (hq : w.heap[B]? = some (.cells #[.int .i64 kd, .int .i64 n, .int .i64 o1, .int .i64 c1, .int .u64 (r1 : Nat), .int .i64 o2, .int .i64 c2, .int .u64 (r2 : Nat), .int .i64 o3, .int .i64 c3, .int .u64 (r3 : Nat)] 30 (0, 0))) : w.cell? ⟨B, 0, none⟩ = some (.int .i64 kd) ∧ w.cell? ⟨B, 1, none⟩ = some (.int .i64 n) ∧ w.cell? ⟨B, 2, none⟩ = some (.int .i64 o1) ∧ w.cell? ⟨B, 3, none⟩ = some (.int .i64 c1) ∧ w.cell? ⟨B, 4, none⟩ = some (.int .u64 (r1 : Nat)) ∧ w.cell? ⟨B, 5, none⟩ = some (.int .i64 o2) ∧ w.cell? ⟨B, 6, none⟩ = some (.int .i64 c2) ∧ w.cell? ⟨B, 7, none⟩ = some (.int .u64 (r2 : Nat)) ∧ w.cell? ⟨B, 8, none⟩ = some (.int .i64 o3) ∧ w.cell? ⟨B, 9, none⟩ = some (.int .i64 c3) ∧ w.cell? ⟨B, 10, none⟩ = some (.int .u64 (r3 : Nat)) := by simp [World.cell?, hq]
theorem cl_cells {w : World} {B : Nat} {kd n : Int} {h x y : Nat} (hq : w.heap[B]? = some (.cells #[.int .i64 kd, .int .i64 n, .int .u64 (h : Nat), .int .u64 (x : Nat), .int .u64 (y : Nat)] 32 (0, 0))) : w.cell? ⟨B, 0, none⟩ = some (.int .i64 kd) ∧ w.cell? ⟨B, 1, none⟩ = some (.int .i64 n) ∧ w.cell? ⟨B, 2, none⟩ = some (.int .u64 (h : Nat)) ∧ w.cell? ⟨B, 3, none⟩ = some (.int .u64 (x : Nat)) ∧ w.cell? ⟨B, 4, none⟩ = some (.int .u64 (y : Nat)) := by simp [World.cell?, hq]
set_option maxHeartbeats 400000 in
theorem walk_any (kd : Int) (w : World) : Calls Try.prog 13 #[.int .i64 kd] w fun r w' => r = .returned (.bool (decide (kd = 9) || decide (kd = 10))) ∧ w = w' := by
  by_cases h9 : kd = 9
  · subst h9
    go_enter Try.func13, Try.ntmps13
    go_wp2
    go_ret
    exact ⟨rfl, rfl⟩
  by_cases h10 : kd = 10
  · subst h10
    go_enter Try.func13, Try.ntmps13
    go_wp2
    go_ret
    exact ⟨rfl, rfl⟩
  have f1 : (kd == 9) = false := by simp [h9]
  have f2 : (kd == 10) = false := by simp [h10]
  rw [decide_eq_false h9, decide_eq_false h10]
  go_enter Try.func13, Try.ntmps13
  go_wp2
  go_ret
  exact ⟨rfl, rfl⟩
set_option maxHeartbeats 400000 in
theorem writes_any (kd : Int) (w : World) : Calls Try.prog 14 #[.int .i64 kd] w fun r w' => r = .returned (.bool (decide (kd = 3) || decide (kd = 4) || decide (kd = 5))) ∧ w = w' := by
  by_cases h3 : kd = 3
  · subst h3
    go_enter Try.func14, Try.ntmps14
    go_wp2
    go_ret
    exact ⟨rfl, rfl⟩
  by_cases h4 : kd = 4
  · subst h4
    go_enter Try.func14, Try.ntmps14
    go_wp2
    go_ret
    exact ⟨rfl, rfl⟩
  by_cases h5 : kd = 5
  · subst h5
    go_enter Try.func14, Try.ntmps14
    go_wp2
    go_ret
    exact ⟨rfl, rfl⟩
  have f1 : (kd == 3) = false := by simp [h3]
  have f2 : (kd == 4) = false := by simp [h4]
  have f3 : (kd == 5) = false := by simp [h5]
  rw [decide_eq_false h3, decide_eq_false h4, decide_eq_false h5]
  go_enter Try.func14, Try.ntmps14
  go_wp2
  go_ret
  exact ⟨rfl, rfl⟩
set_option maxRecDepth 100000 in
set_option maxHeartbeats 8000000 in
theorem call_any {w : World} {ad : Option Addr} {T : List (List Nat)} {len : Nat} (cap : Nat) (hl : len = T.length) (hT : RdT w ad T) (hb : len < 9223372036854775808) (kd n o1 c1 o2 c2 o3 c3 : Int) (r1 r2 r3 : Nat) (self : Int) :
    Calls Try.prog 12 #[.agg #[.int .i64 kd, .int .i64 n, .int .i64 o1, .int .i64 c1, .int .u64 (r1 : Nat), .int .i64 o2, .int .i64 c2, .int .u64 (r2 : Nat), .int .i64 o3, .int .i64 c3, .int .u64 (r3 : Nat)], .int .i64 self, .slice ad len cap] w fun r w' => r = .returned (.agg #[.int .i64 kd, .int .i64 (cnF kd n), .int .u64 (chF kd (valF o1 c1 r1 self T) : Nat), .int .u64 (cxF kd (valF o2 c2 r2 self T) : Nat), .int .u64 (cyF kd (valF o3 c3 r3 self T) : Nat)]) ∧ Below w.heap.size w w' := by
  have VH := (fun (wr : World) (b : Below w.heap.size w wr) => value_any cap hl (hT.below b) hb o1 c1 r1 self)
  have VX := (fun (wr : World) (b : Below w.heap.size w wr) => value_any cap hl (hT.below b) hb o2 c2 r2 self)
  have VY := (fun (wr : World) (b : Below w.heap.size w wr) => value_any cap hl (hT.below b) hb o3 c3 r3 self)
  generalize valF o1 c1 r1 self T = vh at *
  generalize valF o2 c2 r2 self T = vx at *
  generalize valF o3 c3 r3 self T = vy at *
  have vH := hid1 VH
  have vX := hid1 VX
  have vY := hid1 VY
  clear VH VX VY hl hT hb
  have hO := new_obj w (.cells #[.int .i64 kd, .int .i64 n, .int .i64 o1, .int .i64 c1, .int .u64 (r1 : Nat), .int .i64 o2, .int .i64 c2, .int .u64 (r2 : Nat), .int .i64 o3, .int .i64 c3, .int .u64 (r3 : Nat)] 30)
  have b1 := alloc_below w (.cells #[.int .i64 kd, .int .i64 n, .int .i64 o1, .int .i64 c1, .int .u64 (r1 : Nat), .int .i64 o2, .int .i64 c2, .int .u64 (r2 : Nat), .int .i64 o3, .int .i64 c3, .int .u64 (r3 : Nat)] 30)
  have e1 : (w.alloc (.cells #[.int .i64 kd, .int .i64 n, .int .i64 o1, .int .i64 c1, .int .u64 (r1 : Nat), .int .i64 o2, .int .i64 c2, .int .u64 (r2 : Nat), .int .i64 o3, .int .i64 c3, .int .u64 (r3 : Nat)] 30)).heap.size = w.heap.size + 1 := by simp
  generalize hw1 : w.alloc (.cells #[.int .i64 kd, .int .i64 n, .int .i64 o1, .int .i64 c1, .int .u64 (r1 : Nat), .int .i64 o2, .int .i64 c2, .int .u64 (r2 : Nat), .int .i64 o3, .int .i64 c3, .int .u64 (r3 : Nat)] 30) = w1 at hO b1 e1
  have hR := new_obj w1 (.cells #[.int .i64 0, .int .i64 0, .int .u64 0, .int .u64 0, .int .u64 0] 32)
  have b2 := alloc_below w1 (.cells #[.int .i64 0, .int .i64 0, .int .u64 0, .int .u64 0, .int .u64 0] 32)
  have e2 : (w1.alloc (.cells #[.int .i64 0, .int .i64 0, .int .u64 0, .int .u64 0, .int .u64 0] 32)).heap.size = w1.heap.size + 1 := by simp
  replace hO := (b2.block _ (lt_of_block hO)).trans hO
  replace b1 := seq_below b1 b2
  generalize hw2 : w1.alloc (.cells #[.int .i64 0, .int .i64 0, .int .u64 0, .int .u64 0, .int .u64 0] 32) = w2 at hO hR b1 b2 e2
  have hC := new_obj w2 (.cells #[.int .i64 kd, .int .i64 0, .int .u64 ((0 : Nat) : Int), .int .u64 ((0 : Nat) : Int), .int .u64 ((0 : Nat) : Int)] 32)
  have b3 := alloc_below w2 (.cells #[.int .i64 kd, .int .i64 0, .int .u64 ((0 : Nat) : Int), .int .u64 ((0 : Nat) : Int), .int .u64 ((0 : Nat) : Int)] 32)
  replace hO := (b3.block _ (lt_of_block hO)).trans hO
  replace hR := (b3.block _ (lt_of_block hR)).trans hR
  have bel := seq_below b1 b3
  clear b1 b2 b3
  rw [e2, e1] at hC
  rw [e1] at hR
  obtain ⟨bO, hbO⟩ : ∃ b, w.heap.size = b := ⟨_, rfl⟩
  replace hw1 := hid1 hw1
  replace hw2 := hid1 hw2
  obtain ⟨fz, hfz⟩ : ∃ fz, Value.agg #[.int .i64 kd, .int .i64 (cnF kd n), .int .u64 (chF kd vh : Nat), .int .u64 (cxF kd vx : Nat), .int .u64 (cyF kd vy : Nat)] = fz := ⟨_, rfl⟩
  rw [hfz]
  replace hfz := hid1 hfz
  clear e1 e2
  go_enter Try.func12, Try.ntmps12
  go_upto_region 2 with fail
  rw [hw1.out, hw2.out]
  generalize World.alloc _ _ = w3 at *
  rw [hbO] at hO hR hC
  have hbO2 := hid1 hbO
  have hbR : Hid (w.heap.size ≤ bO + 1) := hid1 (by omega)
  have hbC : Hid (w.heap.size ≤ bO + 1 + 1) := hid1 (by omega)
  have hOR : Hid (bO ≠ bO + 1) := hid1 (by omega)
  have hOC : Hid (bO ≠ bO + 1 + 1) := hid1 (by omega)
  have hRC : Hid (bO + 1 ≠ bO + 1 + 1) := hid1 (by omega)
  clear hbO hw1 hw2
  generalize bO + 1 + 1 = bC at *
  generalize bO + 1 = bR at *
  by_cases h5 : kd = 5
  · subst h5
    obtain ⟨y0, y1, y2, y3, y4, y5, y6, y7, y8, y9, y10⟩ := op_cells hO
    obtain ⟨x0, x1, x2, x3, x4⟩ := cl_cells hC
    go_upto_region 14 with (go_at_call 9; with_reducible refine (vY.out _ bel).mono ?_; rintro r w5 ⟨rfl, b⟩; replace bel := seq_below bel b; replace hO := (b.block _ (lt_of_block hO)).trans hO; replace hC := (b.block _ (lt_of_block hC)).trans hC; replace hR := (b.block _ (lt_of_block hR)).trans hR; clear b; clear y0 y1 y2 y3 y4 y5 y6 y7 y8 y9 y10 x0 x1 x2 x3 x4; obtain ⟨y0, y1, y2, y3, y4, y5, y6, y7, y8, y9, y10⟩ := op_cells hO; obtain ⟨x0, x1, x2, x3, x4⟩ := cl_cells hC; have zf := cells_free hC 4)
    clear zf
    replace bel := bel.setCell (p := ⟨bC, 4, none⟩) hbC.out (.int .u64 (vy : Nat))
    replace hO := (heap_side (o := 4) hOC.out (.int .u64 (vy : Nat))).trans hO
    replace hR := (heap_side (o := 4) hRC.out (.int .u64 (vy : Nat))).trans hR
    replace hC := heap_put (o := 4) hC (.int .u64 (vy : Nat))
    replace hC := hid1 hC
    generalize World.setCell _ _ _ = w6 at *
    replace hC := hC.out
    simp only [List.setIfInBounds_toArray, List.set_cons_zero, List.set_cons_succ] at hC
    clear y0 y1 y2 y3 y4 y5 y6 y7 y8 y9 y10 x0 x1 x2 x3 x4
    obtain ⟨y0, y1, y2, y3, y4, y5, y6, y7, y8, y9, y10⟩ := op_cells hO
    obtain ⟨x0, x1, x2, x3, x4⟩ := cl_cells hC
    go_upto_region 15 with (go_at_call 9; with_reducible refine (vX.out _ bel).mono ?_; rintro r w5 ⟨rfl, b⟩; replace bel := seq_below bel b; replace hO := (b.block _ (lt_of_block hO)).trans hO; replace hC := (b.block _ (lt_of_block hC)).trans hC; replace hR := (b.block _ (lt_of_block hR)).trans hR; clear b; clear y0 y1 y2 y3 y4 y5 y6 y7 y8 y9 y10 x0 x1 x2 x3 x4; obtain ⟨y0, y1, y2, y3, y4, y5, y6, y7, y8, y9, y10⟩ := op_cells hO; obtain ⟨x0, x1, x2, x3, x4⟩ := cl_cells hC; have zf := cells_free hC 3)
    clear zf
    replace bel := bel.setCell (p := ⟨bC, 3, none⟩) hbC.out (.int .u64 (vx : Nat))
    replace hO := (heap_side (o := 3) hOC.out (.int .u64 (vx : Nat))).trans hO
    replace hR := (heap_side (o := 3) hRC.out (.int .u64 (vx : Nat))).trans hR
    replace hC := heap_put (o := 3) hC (.int .u64 (vx : Nat))
    replace hC := hid1 hC
    generalize World.setCell _ _ _ = w6 at *
    replace hC := hC.out
    simp only [List.setIfInBounds_toArray, List.set_cons_zero, List.set_cons_succ] at hC
    clear y0 y1 y2 y3 y4 y5 y6 y7 y8 y9 y10 x0 x1 x2 x3 x4
    obtain ⟨y0, y1, y2, y3, y4, y5, y6, y7, y8, y9, y10⟩ := op_cells hO
    obtain ⟨x0, x1, x2, x3, x4⟩ := cl_cells hC
    go_upto_region 16 with (go_at_call 9; with_reducible refine (vH.out _ bel).mono ?_; rintro r w5 ⟨rfl, b⟩; replace bel := seq_below bel b; replace hO := (b.block _ (lt_of_block hO)).trans hO; replace hC := (b.block _ (lt_of_block hC)).trans hC; replace hR := (b.block _ (lt_of_block hR)).trans hR; clear b; clear y0 y1 y2 y3 y4 y5 y6 y7 y8 y9 y10 x0 x1 x2 x3 x4; obtain ⟨y0, y1, y2, y3, y4, y5, y6, y7, y8, y9, y10⟩ := op_cells hO; obtain ⟨x0, x1, x2, x3, x4⟩ := cl_cells hC; have zf := cells_free hC 2)
    clear zf
    replace bel := bel.setCell (p := ⟨bC, 2, none⟩) hbC.out (.int .u64 (vh : Nat))
    replace hO := (heap_side (o := 2) hOC.out (.int .u64 (vh : Nat))).trans hO
    replace hR := (heap_side (o := 2) hRC.out (.int .u64 (vh : Nat))).trans hR
    replace hC := heap_put (o := 2) hC (.int .u64 (vh : Nat))
    replace hC := hid1 hC
    generalize World.setCell _ _ _ = w6 at *
    replace hC := hC.out
    simp only [List.setIfInBounds_toArray, List.set_cons_zero, List.set_cons_succ] at hC
    clear y0 y1 y2 y3 y4 y5 y6 y7 y8 y9 y10 x0 x1 x2 x3 x4
    obtain ⟨y0, y1, y2, y3, y4, y5, y6, y7, y8, y9, y10⟩ := op_cells hO
    obtain ⟨x0, x1, x2, x3, x4⟩ := cl_cells hC
    have zf := cells_free hC 1
    go_upto_region 17 with fail
    clear zf
    replace bel := bel.setCell (p := ⟨bC, 1, none⟩) hbC.out (.int .i64 n)
    replace hO := (heap_side (o := 1) hOC.out (.int .i64 n)).trans hO
    replace hR := (heap_side (o := 1) hRC.out (.int .i64 n)).trans hR
    replace hC := heap_put (o := 1) hC (.int .i64 n)
    replace hC := hid1 hC
    generalize World.setCell _ _ _ = w6 at *
    replace hC := hC.out
    simp only [List.setIfInBounds_toArray, List.set_cons_zero, List.set_cons_succ] at hC
    clear y0 y1 y2 y3 y4 y5 y6 y7 y8 y9 y10 x0 x1 x2 x3 x4
    obtain ⟨y0, y1, y2, y3, y4, y5, y6, y7, y8, y9, y10⟩ := op_cells hO
    obtain ⟨x0, x1, x2, x3, x4⟩ := cl_cells hC
    have ce := call_end hR hbR.out bel (.int .i64 5) (.int .i64 n) (.int .u64 (vh : Nat)) (.int .u64 (vx : Nat)) (.int .u64 (vy : Nat))
    obtain ⟨r0, r1, r2, r3, r4⟩ := five_cells hR
    have z0 := cells_free hR 0
    have z1 := cells_free hR 1
    have z2 := cells_free hR 2
    have z3 := cells_free hR 3
    have z4 := cells_free hR 4
    go_wp2
    refine bodyPost_ret (results_cell_row rfl _ _ bR 32 _ (0, 0) _ rfl ce.1 Try.underlying32 rfl (by kernel_rfl)) rfl ?_
    exact ⟨by first | (rw [← hfz.out]; rfl) | rw [← hfz.out], ce.2⟩
  have f5 : (kd == 5) = false := by simp [h5]
  by_cases h3 : kd = 3
  · subst h3
    obtain ⟨y0, y1, y2, y3, y4, y5, y6, y7, y8, y9, y10⟩ := op_cells hO
    obtain ⟨x0, x1, x2, x3, x4⟩ := cl_cells hC
    go_upto_region 15 with (go_at_call 9; with_reducible refine (vX.out _ bel).mono ?_; rintro r w5 ⟨rfl, b⟩; replace bel := seq_below bel b; replace hO := (b.block _ (lt_of_block hO)).trans hO; replace hC := (b.block _ (lt_of_block hC)).trans hC; replace hR := (b.block _ (lt_of_block hR)).trans hR; clear b; clear y0 y1 y2 y3 y4 y5 y6 y7 y8 y9 y10 x0 x1 x2 x3 x4; obtain ⟨y0, y1, y2, y3, y4, y5, y6, y7, y8, y9, y10⟩ := op_cells hO; obtain ⟨x0, x1, x2, x3, x4⟩ := cl_cells hC; have zf := cells_free hC 3)
    clear zf
    replace bel := bel.setCell (p := ⟨bC, 3, none⟩) hbC.out (.int .u64 (vx : Nat))
    replace hO := (heap_side (o := 3) hOC.out (.int .u64 (vx : Nat))).trans hO
    replace hR := (heap_side (o := 3) hRC.out (.int .u64 (vx : Nat))).trans hR
    replace hC := heap_put (o := 3) hC (.int .u64 (vx : Nat))
    replace hC := hid1 hC
    generalize World.setCell _ _ _ = w6 at *
    replace hC := hC.out
    simp only [List.setIfInBounds_toArray, List.set_cons_zero, List.set_cons_succ] at hC
    clear y0 y1 y2 y3 y4 y5 y6 y7 y8 y9 y10 x0 x1 x2 x3 x4
    obtain ⟨y0, y1, y2, y3, y4, y5, y6, y7, y8, y9, y10⟩ := op_cells hO
    obtain ⟨x0, x1, x2, x3, x4⟩ := cl_cells hC
    go_upto_region 16 with (go_at_call 9; with_reducible refine (vH.out _ bel).mono ?_; rintro r w5 ⟨rfl, b⟩; replace bel := seq_below bel b; replace hO := (b.block _ (lt_of_block hO)).trans hO; replace hC := (b.block _ (lt_of_block hC)).trans hC; replace hR := (b.block _ (lt_of_block hR)).trans hR; clear b; clear y0 y1 y2 y3 y4 y5 y6 y7 y8 y9 y10 x0 x1 x2 x3 x4; obtain ⟨y0, y1, y2, y3, y4, y5, y6, y7, y8, y9, y10⟩ := op_cells hO; obtain ⟨x0, x1, x2, x3, x4⟩ := cl_cells hC; have zf := cells_free hC 2)
    clear zf
    replace bel := bel.setCell (p := ⟨bC, 2, none⟩) hbC.out (.int .u64 (vh : Nat))
    replace hO := (heap_side (o := 2) hOC.out (.int .u64 (vh : Nat))).trans hO
    replace hR := (heap_side (o := 2) hRC.out (.int .u64 (vh : Nat))).trans hR
    replace hC := heap_put (o := 2) hC (.int .u64 (vh : Nat))
    replace hC := hid1 hC
    generalize World.setCell _ _ _ = w6 at *
    replace hC := hC.out
    simp only [List.setIfInBounds_toArray, List.set_cons_zero, List.set_cons_succ] at hC
    clear y0 y1 y2 y3 y4 y5 y6 y7 y8 y9 y10 x0 x1 x2 x3 x4
    obtain ⟨y0, y1, y2, y3, y4, y5, y6, y7, y8, y9, y10⟩ := op_cells hO
    obtain ⟨x0, x1, x2, x3, x4⟩ := cl_cells hC
    have zf := cells_free hC 1
    go_upto_region 17 with fail
    clear zf
    replace bel := bel.setCell (p := ⟨bC, 1, none⟩) hbC.out (.int .i64 n)
    replace hO := (heap_side (o := 1) hOC.out (.int .i64 n)).trans hO
    replace hR := (heap_side (o := 1) hRC.out (.int .i64 n)).trans hR
    replace hC := heap_put (o := 1) hC (.int .i64 n)
    replace hC := hid1 hC
    generalize World.setCell _ _ _ = w6 at *
    replace hC := hC.out
    simp only [List.setIfInBounds_toArray, List.set_cons_zero, List.set_cons_succ] at hC
    clear y0 y1 y2 y3 y4 y5 y6 y7 y8 y9 y10 x0 x1 x2 x3 x4
    obtain ⟨y0, y1, y2, y3, y4, y5, y6, y7, y8, y9, y10⟩ := op_cells hO
    obtain ⟨x0, x1, x2, x3, x4⟩ := cl_cells hC
    have ce := call_end hR hbR.out bel (.int .i64 3) (.int .i64 n) (.int .u64 (vh : Nat)) (.int .u64 (vx : Nat)) (.int .u64 ((0 : Nat) : Int))
    obtain ⟨r0, r1, r2, r3, r4⟩ := five_cells hR
    have z0 := cells_free hR 0
    have z1 := cells_free hR 1
    have z2 := cells_free hR 2
    have z3 := cells_free hR 3
    have z4 := cells_free hR 4
    go_wp2
    refine bodyPost_ret (results_cell_row rfl _ _ bR 32 _ (0, 0) _ rfl ce.1 Try.underlying32 rfl (by kernel_rfl)) rfl ?_
    exact ⟨by first | (rw [← hfz.out]; rfl) | rw [← hfz.out], ce.2⟩
  have f3 : (kd == 3) = false := by simp [h3]
  by_cases h7 : kd = 7
  · subst h7
    obtain ⟨y0, y1, y2, y3, y4, y5, y6, y7, y8, y9, y10⟩ := op_cells hO
    obtain ⟨x0, x1, x2, x3, x4⟩ := cl_cells hC
    go_upto_region 15 with (go_at_call 9; with_reducible refine (vX.out _ bel).mono ?_; rintro r w5 ⟨rfl, b⟩; replace bel := seq_below bel b; replace hO := (b.block _ (lt_of_block hO)).trans hO; replace hC := (b.block _ (lt_of_block hC)).trans hC; replace hR := (b.block _ (lt_of_block hR)).trans hR; clear b; clear y0 y1 y2 y3 y4 y5 y6 y7 y8 y9 y10 x0 x1 x2 x3 x4; obtain ⟨y0, y1, y2, y3, y4, y5, y6, y7, y8, y9, y10⟩ := op_cells hO; obtain ⟨x0, x1, x2, x3, x4⟩ := cl_cells hC; have zf := cells_free hC 3)
    clear zf
    replace bel := bel.setCell (p := ⟨bC, 3, none⟩) hbC.out (.int .u64 (vx : Nat))
    replace hO := (heap_side (o := 3) hOC.out (.int .u64 (vx : Nat))).trans hO
    replace hR := (heap_side (o := 3) hRC.out (.int .u64 (vx : Nat))).trans hR
    replace hC := heap_put (o := 3) hC (.int .u64 (vx : Nat))
    replace hC := hid1 hC
    generalize World.setCell _ _ _ = w6 at *
    replace hC := hC.out
    simp only [List.setIfInBounds_toArray, List.set_cons_zero, List.set_cons_succ] at hC
    clear y0 y1 y2 y3 y4 y5 y6 y7 y8 y9 y10 x0 x1 x2 x3 x4
    obtain ⟨y0, y1, y2, y3, y4, y5, y6, y7, y8, y9, y10⟩ := op_cells hO
    obtain ⟨x0, x1, x2, x3, x4⟩ := cl_cells hC
    go_upto_region 16 with (go_at_call 9; with_reducible refine (vH.out _ bel).mono ?_; rintro r w5 ⟨rfl, b⟩; replace bel := seq_below bel b; replace hO := (b.block _ (lt_of_block hO)).trans hO; replace hC := (b.block _ (lt_of_block hC)).trans hC; replace hR := (b.block _ (lt_of_block hR)).trans hR; clear b; clear y0 y1 y2 y3 y4 y5 y6 y7 y8 y9 y10 x0 x1 x2 x3 x4; obtain ⟨y0, y1, y2, y3, y4, y5, y6, y7, y8, y9, y10⟩ := op_cells hO; obtain ⟨x0, x1, x2, x3, x4⟩ := cl_cells hC; have zf := cells_free hC 2)
    clear zf
    replace bel := bel.setCell (p := ⟨bC, 2, none⟩) hbC.out (.int .u64 (vh : Nat))
    replace hO := (heap_side (o := 2) hOC.out (.int .u64 (vh : Nat))).trans hO
    replace hR := (heap_side (o := 2) hRC.out (.int .u64 (vh : Nat))).trans hR
    replace hC := heap_put (o := 2) hC (.int .u64 (vh : Nat))
    replace hC := hid1 hC
    generalize World.setCell _ _ _ = w6 at *
    replace hC := hC.out
    simp only [List.setIfInBounds_toArray, List.set_cons_zero, List.set_cons_succ] at hC
    clear y0 y1 y2 y3 y4 y5 y6 y7 y8 y9 y10 x0 x1 x2 x3 x4
    obtain ⟨y0, y1, y2, y3, y4, y5, y6, y7, y8, y9, y10⟩ := op_cells hO
    obtain ⟨x0, x1, x2, x3, x4⟩ := cl_cells hC
    have zf := cells_free hC 1
    go_upto_region 17 with fail
    clear zf
    replace bel := bel.setCell (p := ⟨bC, 1, none⟩) hbC.out (.int .i64 n)
    replace hO := (heap_side (o := 1) hOC.out (.int .i64 n)).trans hO
    replace hR := (heap_side (o := 1) hRC.out (.int .i64 n)).trans hR
    replace hC := heap_put (o := 1) hC (.int .i64 n)
    replace hC := hid1 hC
    generalize World.setCell _ _ _ = w6 at *
    replace hC := hC.out
    simp only [List.setIfInBounds_toArray, List.set_cons_zero, List.set_cons_succ] at hC
    clear y0 y1 y2 y3 y4 y5 y6 y7 y8 y9 y10 x0 x1 x2 x3 x4
    obtain ⟨y0, y1, y2, y3, y4, y5, y6, y7, y8, y9, y10⟩ := op_cells hO
    obtain ⟨x0, x1, x2, x3, x4⟩ := cl_cells hC
    have ce := call_end hR hbR.out bel (.int .i64 7) (.int .i64 n) (.int .u64 (vh : Nat)) (.int .u64 (vx : Nat)) (.int .u64 ((0 : Nat) : Int))
    obtain ⟨r0, r1, r2, r3, r4⟩ := five_cells hR
    have z0 := cells_free hR 0
    have z1 := cells_free hR 1
    have z2 := cells_free hR 2
    have z3 := cells_free hR 3
    have z4 := cells_free hR 4
    go_wp2
    refine bodyPost_ret (results_cell_row rfl _ _ bR 32 _ (0, 0) _ rfl ce.1 Try.underlying32 rfl (by kernel_rfl)) rfl ?_
    exact ⟨by first | (rw [← hfz.out]; rfl) | rw [← hfz.out], ce.2⟩
  have f7 : (kd == 7) = false := by simp [h7]
  by_cases h2 : kd = 2
  · subst h2
    obtain ⟨y0, y1, y2, y3, y4, y5, y6, y7, y8, y9, y10⟩ := op_cells hO
    obtain ⟨x0, x1, x2, x3, x4⟩ := cl_cells hC
    go_upto_region 16 with (go_at_call 9; with_reducible refine (vH.out _ bel).mono ?_; rintro r w5 ⟨rfl, b⟩; replace bel := seq_below bel b; replace hO := (b.block _ (lt_of_block hO)).trans hO; replace hC := (b.block _ (lt_of_block hC)).trans hC; replace hR := (b.block _ (lt_of_block hR)).trans hR; clear b; clear y0 y1 y2 y3 y4 y5 y6 y7 y8 y9 y10 x0 x1 x2 x3 x4; obtain ⟨y0, y1, y2, y3, y4, y5, y6, y7, y8, y9, y10⟩ := op_cells hO; obtain ⟨x0, x1, x2, x3, x4⟩ := cl_cells hC; have zf := cells_free hC 2)
    clear zf
    replace bel := bel.setCell (p := ⟨bC, 2, none⟩) hbC.out (.int .u64 (vh : Nat))
    replace hO := (heap_side (o := 2) hOC.out (.int .u64 (vh : Nat))).trans hO
    replace hR := (heap_side (o := 2) hRC.out (.int .u64 (vh : Nat))).trans hR
    replace hC := heap_put (o := 2) hC (.int .u64 (vh : Nat))
    replace hC := hid1 hC
    generalize World.setCell _ _ _ = w6 at *
    replace hC := hC.out
    simp only [List.setIfInBounds_toArray, List.set_cons_zero, List.set_cons_succ] at hC
    clear y0 y1 y2 y3 y4 y5 y6 y7 y8 y9 y10 x0 x1 x2 x3 x4
    obtain ⟨y0, y1, y2, y3, y4, y5, y6, y7, y8, y9, y10⟩ := op_cells hO
    obtain ⟨x0, x1, x2, x3, x4⟩ := cl_cells hC
    have zf := cells_free hC 1
    go_upto_region 17 with fail
    clear zf
    replace bel := bel.setCell (p := ⟨bC, 1, none⟩) hbC.out (.int .i64 n)
    replace hO := (heap_side (o := 1) hOC.out (.int .i64 n)).trans hO
    replace hR := (heap_side (o := 1) hRC.out (.int .i64 n)).trans hR
    replace hC := heap_put (o := 1) hC (.int .i64 n)
    replace hC := hid1 hC
    generalize World.setCell _ _ _ = w6 at *
    replace hC := hC.out
    simp only [List.setIfInBounds_toArray, List.set_cons_zero, List.set_cons_succ] at hC
    clear y0 y1 y2 y3 y4 y5 y6 y7 y8 y9 y10 x0 x1 x2 x3 x4
    obtain ⟨y0, y1, y2, y3, y4, y5, y6, y7, y8, y9, y10⟩ := op_cells hO
    obtain ⟨x0, x1, x2, x3, x4⟩ := cl_cells hC
    have ce := call_end hR hbR.out bel (.int .i64 2) (.int .i64 n) (.int .u64 (vh : Nat)) (.int .u64 ((0 : Nat) : Int)) (.int .u64 ((0 : Nat) : Int))
    obtain ⟨r0, r1, r2, r3, r4⟩ := five_cells hR
    have z0 := cells_free hR 0
    have z1 := cells_free hR 1
    have z2 := cells_free hR 2
    have z3 := cells_free hR 3
    have z4 := cells_free hR 4
    go_wp2
    refine bodyPost_ret (results_cell_row rfl _ _ bR 32 _ (0, 0) _ rfl ce.1 Try.underlying32 rfl (by kernel_rfl)) rfl ?_
    exact ⟨by first | (rw [← hfz.out]; rfl) | rw [← hfz.out], ce.2⟩
  have f2 : (kd == 2) = false := by simp [h2]
  by_cases h4 : kd = 4
  · subst h4
    obtain ⟨y0, y1, y2, y3, y4, y5, y6, y7, y8, y9, y10⟩ := op_cells hO
    obtain ⟨x0, x1, x2, x3, x4⟩ := cl_cells hC
    go_upto_region 16 with (go_at_call 9; with_reducible refine (vH.out _ bel).mono ?_; rintro r w5 ⟨rfl, b⟩; replace bel := seq_below bel b; replace hO := (b.block _ (lt_of_block hO)).trans hO; replace hC := (b.block _ (lt_of_block hC)).trans hC; replace hR := (b.block _ (lt_of_block hR)).trans hR; clear b; clear y0 y1 y2 y3 y4 y5 y6 y7 y8 y9 y10 x0 x1 x2 x3 x4; obtain ⟨y0, y1, y2, y3, y4, y5, y6, y7, y8, y9, y10⟩ := op_cells hO; obtain ⟨x0, x1, x2, x3, x4⟩ := cl_cells hC; have zf := cells_free hC 2)
    clear zf
    replace bel := bel.setCell (p := ⟨bC, 2, none⟩) hbC.out (.int .u64 (vh : Nat))
    replace hO := (heap_side (o := 2) hOC.out (.int .u64 (vh : Nat))).trans hO
    replace hR := (heap_side (o := 2) hRC.out (.int .u64 (vh : Nat))).trans hR
    replace hC := heap_put (o := 2) hC (.int .u64 (vh : Nat))
    replace hC := hid1 hC
    generalize World.setCell _ _ _ = w6 at *
    replace hC := hC.out
    simp only [List.setIfInBounds_toArray, List.set_cons_zero, List.set_cons_succ] at hC
    clear y0 y1 y2 y3 y4 y5 y6 y7 y8 y9 y10 x0 x1 x2 x3 x4
    obtain ⟨y0, y1, y2, y3, y4, y5, y6, y7, y8, y9, y10⟩ := op_cells hO
    obtain ⟨x0, x1, x2, x3, x4⟩ := cl_cells hC
    have zf := cells_free hC 1
    go_upto_region 17 with fail
    clear zf
    replace bel := bel.setCell (p := ⟨bC, 1, none⟩) hbC.out (.int .i64 n)
    replace hO := (heap_side (o := 1) hOC.out (.int .i64 n)).trans hO
    replace hR := (heap_side (o := 1) hRC.out (.int .i64 n)).trans hR
    replace hC := heap_put (o := 1) hC (.int .i64 n)
    replace hC := hid1 hC
    generalize World.setCell _ _ _ = w6 at *
    replace hC := hC.out
    simp only [List.setIfInBounds_toArray, List.set_cons_zero, List.set_cons_succ] at hC
    clear y0 y1 y2 y3 y4 y5 y6 y7 y8 y9 y10 x0 x1 x2 x3 x4
    obtain ⟨y0, y1, y2, y3, y4, y5, y6, y7, y8, y9, y10⟩ := op_cells hO
    obtain ⟨x0, x1, x2, x3, x4⟩ := cl_cells hC
    have ce := call_end hR hbR.out bel (.int .i64 4) (.int .i64 n) (.int .u64 (vh : Nat)) (.int .u64 ((0 : Nat) : Int)) (.int .u64 ((0 : Nat) : Int))
    obtain ⟨r0, r1, r2, r3, r4⟩ := five_cells hR
    have z0 := cells_free hR 0
    have z1 := cells_free hR 1
    have z2 := cells_free hR 2
    have z3 := cells_free hR 3
    have z4 := cells_free hR 4
    go_wp2
    refine bodyPost_ret (results_cell_row rfl _ _ bR 32 _ (0, 0) _ rfl ce.1 Try.underlying32 rfl (by kernel_rfl)) rfl ?_
    exact ⟨by first | (rw [← hfz.out]; rfl) | rw [← hfz.out], ce.2⟩
  have f4 : (kd == 4) = false := by simp [h4]
  by_cases h6 : kd = 6
  · subst h6
    obtain ⟨y0, y1, y2, y3, y4, y5, y6, y7, y8, y9, y10⟩ := op_cells hO
    obtain ⟨x0, x1, x2, x3, x4⟩ := cl_cells hC
    go_upto_region 16 with (go_at_call 9; with_reducible refine (vH.out _ bel).mono ?_; rintro r w5 ⟨rfl, b⟩; replace bel := seq_below bel b; replace hO := (b.block _ (lt_of_block hO)).trans hO; replace hC := (b.block _ (lt_of_block hC)).trans hC; replace hR := (b.block _ (lt_of_block hR)).trans hR; clear b; clear y0 y1 y2 y3 y4 y5 y6 y7 y8 y9 y10 x0 x1 x2 x3 x4; obtain ⟨y0, y1, y2, y3, y4, y5, y6, y7, y8, y9, y10⟩ := op_cells hO; obtain ⟨x0, x1, x2, x3, x4⟩ := cl_cells hC; have zf := cells_free hC 2)
    clear zf
    replace bel := bel.setCell (p := ⟨bC, 2, none⟩) hbC.out (.int .u64 (vh : Nat))
    replace hO := (heap_side (o := 2) hOC.out (.int .u64 (vh : Nat))).trans hO
    replace hR := (heap_side (o := 2) hRC.out (.int .u64 (vh : Nat))).trans hR
    replace hC := heap_put (o := 2) hC (.int .u64 (vh : Nat))
    replace hC := hid1 hC
    generalize World.setCell _ _ _ = w6 at *
    replace hC := hC.out
    simp only [List.setIfInBounds_toArray, List.set_cons_zero, List.set_cons_succ] at hC
    clear y0 y1 y2 y3 y4 y5 y6 y7 y8 y9 y10 x0 x1 x2 x3 x4
    obtain ⟨y0, y1, y2, y3, y4, y5, y6, y7, y8, y9, y10⟩ := op_cells hO
    obtain ⟨x0, x1, x2, x3, x4⟩ := cl_cells hC
    have zf := cells_free hC 1
    go_upto_region 17 with fail
    clear zf
    replace bel := bel.setCell (p := ⟨bC, 1, none⟩) hbC.out (.int .i64 n)
    replace hO := (heap_side (o := 1) hOC.out (.int .i64 n)).trans hO
    replace hR := (heap_side (o := 1) hRC.out (.int .i64 n)).trans hR
    replace hC := heap_put (o := 1) hC (.int .i64 n)
    replace hC := hid1 hC
    generalize World.setCell _ _ _ = w6 at *
    replace hC := hC.out
    simp only [List.setIfInBounds_toArray, List.set_cons_zero, List.set_cons_succ] at hC
    clear y0 y1 y2 y3 y4 y5 y6 y7 y8 y9 y10 x0 x1 x2 x3 x4
    obtain ⟨y0, y1, y2, y3, y4, y5, y6, y7, y8, y9, y10⟩ := op_cells hO
    obtain ⟨x0, x1, x2, x3, x4⟩ := cl_cells hC
    have ce := call_end hR hbR.out bel (.int .i64 6) (.int .i64 n) (.int .u64 (vh : Nat)) (.int .u64 ((0 : Nat) : Int)) (.int .u64 ((0 : Nat) : Int))
    obtain ⟨r0, r1, r2, r3, r4⟩ := five_cells hR
    have z0 := cells_free hR 0
    have z1 := cells_free hR 1
    have z2 := cells_free hR 2
    have z3 := cells_free hR 3
    have z4 := cells_free hR 4
    go_wp2
    refine bodyPost_ret (results_cell_row rfl _ _ bR 32 _ (0, 0) _ rfl ce.1 Try.underlying32 rfl (by kernel_rfl)) rfl ?_
    exact ⟨by first | (rw [← hfz.out]; rfl) | rw [← hfz.out], ce.2⟩
  have f6 : (kd == 6) = false := by simp [h6]
  by_cases h8 : kd = 8
  · subst h8
    obtain ⟨y0, y1, y2, y3, y4, y5, y6, y7, y8, y9, y10⟩ := op_cells hO
    obtain ⟨x0, x1, x2, x3, x4⟩ := cl_cells hC
    go_upto_region 16 with (go_at_call 9; with_reducible refine (vH.out _ bel).mono ?_; rintro r w5 ⟨rfl, b⟩; replace bel := seq_below bel b; replace hO := (b.block _ (lt_of_block hO)).trans hO; replace hC := (b.block _ (lt_of_block hC)).trans hC; replace hR := (b.block _ (lt_of_block hR)).trans hR; clear b; clear y0 y1 y2 y3 y4 y5 y6 y7 y8 y9 y10 x0 x1 x2 x3 x4; obtain ⟨y0, y1, y2, y3, y4, y5, y6, y7, y8, y9, y10⟩ := op_cells hO; obtain ⟨x0, x1, x2, x3, x4⟩ := cl_cells hC; have zf := cells_free hC 2)
    clear zf
    replace bel := bel.setCell (p := ⟨bC, 2, none⟩) hbC.out (.int .u64 (vh : Nat))
    replace hO := (heap_side (o := 2) hOC.out (.int .u64 (vh : Nat))).trans hO
    replace hR := (heap_side (o := 2) hRC.out (.int .u64 (vh : Nat))).trans hR
    replace hC := heap_put (o := 2) hC (.int .u64 (vh : Nat))
    replace hC := hid1 hC
    generalize World.setCell _ _ _ = w6 at *
    replace hC := hC.out
    simp only [List.setIfInBounds_toArray, List.set_cons_zero, List.set_cons_succ] at hC
    clear y0 y1 y2 y3 y4 y5 y6 y7 y8 y9 y10 x0 x1 x2 x3 x4
    obtain ⟨y0, y1, y2, y3, y4, y5, y6, y7, y8, y9, y10⟩ := op_cells hO
    obtain ⟨x0, x1, x2, x3, x4⟩ := cl_cells hC
    have zf := cells_free hC 1
    go_upto_region 17 with fail
    clear zf
    replace bel := bel.setCell (p := ⟨bC, 1, none⟩) hbC.out (.int .i64 n)
    replace hO := (heap_side (o := 1) hOC.out (.int .i64 n)).trans hO
    replace hR := (heap_side (o := 1) hRC.out (.int .i64 n)).trans hR
    replace hC := heap_put (o := 1) hC (.int .i64 n)
    replace hC := hid1 hC
    generalize World.setCell _ _ _ = w6 at *
    replace hC := hC.out
    simp only [List.setIfInBounds_toArray, List.set_cons_zero, List.set_cons_succ] at hC
    clear y0 y1 y2 y3 y4 y5 y6 y7 y8 y9 y10 x0 x1 x2 x3 x4
    obtain ⟨y0, y1, y2, y3, y4, y5, y6, y7, y8, y9, y10⟩ := op_cells hO
    obtain ⟨x0, x1, x2, x3, x4⟩ := cl_cells hC
    have ce := call_end hR hbR.out bel (.int .i64 8) (.int .i64 n) (.int .u64 (vh : Nat)) (.int .u64 ((0 : Nat) : Int)) (.int .u64 ((0 : Nat) : Int))
    obtain ⟨r0, r1, r2, r3, r4⟩ := five_cells hR
    have z0 := cells_free hR 0
    have z1 := cells_free hR 1
    have z2 := cells_free hR 2
    have z3 := cells_free hR 3
    have z4 := cells_free hR 4
    go_wp2
    refine bodyPost_ret (results_cell_row rfl _ _ bR 32 _ (0, 0) _ rfl ce.1 Try.underlying32 rfl (by kernel_rfl)) rfl ?_
    exact ⟨by first | (rw [← hfz.out]; rfl) | rw [← hfz.out], ce.2⟩
  have f8 : (kd == 8) = false := by simp [h8]
  by_cases h9 : kd = 9
  · subst h9
    obtain ⟨y0, y1, y2, y3, y4, y5, y6, y7, y8, y9, y10⟩ := op_cells hO
    obtain ⟨x0, x1, x2, x3, x4⟩ := cl_cells hC
    go_upto_region 16 with (go_at_call 9; with_reducible refine (vH.out _ bel).mono ?_; rintro r w5 ⟨rfl, b⟩; replace bel := seq_below bel b; replace hO := (b.block _ (lt_of_block hO)).trans hO; replace hC := (b.block _ (lt_of_block hC)).trans hC; replace hR := (b.block _ (lt_of_block hR)).trans hR; clear b; clear y0 y1 y2 y3 y4 y5 y6 y7 y8 y9 y10 x0 x1 x2 x3 x4; obtain ⟨y0, y1, y2, y3, y4, y5, y6, y7, y8, y9, y10⟩ := op_cells hO; obtain ⟨x0, x1, x2, x3, x4⟩ := cl_cells hC; have zf := cells_free hC 2)
    clear zf
    replace bel := bel.setCell (p := ⟨bC, 2, none⟩) hbC.out (.int .u64 (vh : Nat))
    replace hO := (heap_side (o := 2) hOC.out (.int .u64 (vh : Nat))).trans hO
    replace hR := (heap_side (o := 2) hRC.out (.int .u64 (vh : Nat))).trans hR
    replace hC := heap_put (o := 2) hC (.int .u64 (vh : Nat))
    replace hC := hid1 hC
    generalize World.setCell _ _ _ = w6 at *
    replace hC := hC.out
    simp only [List.setIfInBounds_toArray, List.set_cons_zero, List.set_cons_succ] at hC
    clear y0 y1 y2 y3 y4 y5 y6 y7 y8 y9 y10 x0 x1 x2 x3 x4
    obtain ⟨y0, y1, y2, y3, y4, y5, y6, y7, y8, y9, y10⟩ := op_cells hO
    obtain ⟨x0, x1, x2, x3, x4⟩ := cl_cells hC
    have zf := cells_free hC 1
    go_upto_region 17 with fail
    clear zf
    replace bel := bel.setCell (p := ⟨bC, 1, none⟩) hbC.out (.int .i64 n)
    replace hO := (heap_side (o := 1) hOC.out (.int .i64 n)).trans hO
    replace hR := (heap_side (o := 1) hRC.out (.int .i64 n)).trans hR
    replace hC := heap_put (o := 1) hC (.int .i64 n)
    replace hC := hid1 hC
    generalize World.setCell _ _ _ = w6 at *
    replace hC := hC.out
    simp only [List.setIfInBounds_toArray, List.set_cons_zero, List.set_cons_succ] at hC
    clear y0 y1 y2 y3 y4 y5 y6 y7 y8 y9 y10 x0 x1 x2 x3 x4
    obtain ⟨y0, y1, y2, y3, y4, y5, y6, y7, y8, y9, y10⟩ := op_cells hO
    obtain ⟨x0, x1, x2, x3, x4⟩ := cl_cells hC
    have ce := call_end hR hbR.out bel (.int .i64 9) (.int .i64 n) (.int .u64 (vh : Nat)) (.int .u64 ((0 : Nat) : Int)) (.int .u64 ((0 : Nat) : Int))
    obtain ⟨r0, r1, r2, r3, r4⟩ := five_cells hR
    have z0 := cells_free hR 0
    have z1 := cells_free hR 1
    have z2 := cells_free hR 2
    have z3 := cells_free hR 3
    have z4 := cells_free hR 4
    go_wp2
    refine bodyPost_ret (results_cell_row rfl _ _ bR 32 _ (0, 0) _ rfl ce.1 Try.underlying32 rfl (by kernel_rfl)) rfl ?_
    exact ⟨by first | (rw [← hfz.out]; rfl) | rw [← hfz.out], ce.2⟩
  have f9 : (kd == 9) = false := by simp [h9]
  by_cases h10 : kd = 10
  · subst h10
    obtain ⟨y0, y1, y2, y3, y4, y5, y6, y7, y8, y9, y10⟩ := op_cells hO
    obtain ⟨x0, x1, x2, x3, x4⟩ := cl_cells hC
    go_upto_region 16 with (go_at_call 9; with_reducible refine (vH.out _ bel).mono ?_; rintro r w5 ⟨rfl, b⟩; replace bel := seq_below bel b; replace hO := (b.block _ (lt_of_block hO)).trans hO; replace hC := (b.block _ (lt_of_block hC)).trans hC; replace hR := (b.block _ (lt_of_block hR)).trans hR; clear b; clear y0 y1 y2 y3 y4 y5 y6 y7 y8 y9 y10 x0 x1 x2 x3 x4; obtain ⟨y0, y1, y2, y3, y4, y5, y6, y7, y8, y9, y10⟩ := op_cells hO; obtain ⟨x0, x1, x2, x3, x4⟩ := cl_cells hC; have zf := cells_free hC 2)
    clear zf
    replace bel := bel.setCell (p := ⟨bC, 2, none⟩) hbC.out (.int .u64 (vh : Nat))
    replace hO := (heap_side (o := 2) hOC.out (.int .u64 (vh : Nat))).trans hO
    replace hR := (heap_side (o := 2) hRC.out (.int .u64 (vh : Nat))).trans hR
    replace hC := heap_put (o := 2) hC (.int .u64 (vh : Nat))
    replace hC := hid1 hC
    generalize World.setCell _ _ _ = w6 at *
    replace hC := hC.out
    simp only [List.setIfInBounds_toArray, List.set_cons_zero, List.set_cons_succ] at hC
    clear y0 y1 y2 y3 y4 y5 y6 y7 y8 y9 y10 x0 x1 x2 x3 x4
    obtain ⟨y0, y1, y2, y3, y4, y5, y6, y7, y8, y9, y10⟩ := op_cells hO
    obtain ⟨x0, x1, x2, x3, x4⟩ := cl_cells hC
    have zf := cells_free hC 1
    go_upto_region 17 with fail
    clear zf
    replace bel := bel.setCell (p := ⟨bC, 1, none⟩) hbC.out (.int .i64 n)
    replace hO := (heap_side (o := 1) hOC.out (.int .i64 n)).trans hO
    replace hR := (heap_side (o := 1) hRC.out (.int .i64 n)).trans hR
    replace hC := heap_put (o := 1) hC (.int .i64 n)
    replace hC := hid1 hC
    generalize World.setCell _ _ _ = w6 at *
    replace hC := hC.out
    simp only [List.setIfInBounds_toArray, List.set_cons_zero, List.set_cons_succ] at hC
    clear y0 y1 y2 y3 y4 y5 y6 y7 y8 y9 y10 x0 x1 x2 x3 x4
    obtain ⟨y0, y1, y2, y3, y4, y5, y6, y7, y8, y9, y10⟩ := op_cells hO
    obtain ⟨x0, x1, x2, x3, x4⟩ := cl_cells hC
    have ce := call_end hR hbR.out bel (.int .i64 10) (.int .i64 n) (.int .u64 (vh : Nat)) (.int .u64 ((0 : Nat) : Int)) (.int .u64 ((0 : Nat) : Int))
    obtain ⟨r0, r1, r2, r3, r4⟩ := five_cells hR
    have z0 := cells_free hR 0
    have z1 := cells_free hR 1
    have z2 := cells_free hR 2
    have z3 := cells_free hR 3
    have z4 := cells_free hR 4
    go_wp2
    refine bodyPost_ret (results_cell_row rfl _ _ bR 32 _ (0, 0) _ rfl ce.1 Try.underlying32 rfl (by kernel_rfl)) rfl ?_
    exact ⟨by first | (rw [← hfz.out]; rfl) | rw [← hfz.out], ce.2⟩
  have f10 : (kd == 10) = false := by simp [h10]
  by_cases h1 : kd = 1
  · subst h1
    obtain ⟨y0, y1, y2, y3, y4, y5, y6, y7, y8, y9, y10⟩ := op_cells hO
    obtain ⟨x0, x1, x2, x3, x4⟩ := cl_cells hC
    have zf := cells_free hC 1
    go_upto_region 17 with fail
    clear zf
    replace bel := bel.setCell (p := ⟨bC, 1, none⟩) hbC.out (.int .i64 n)
    replace hO := (heap_side (o := 1) hOC.out (.int .i64 n)).trans hO
    replace hR := (heap_side (o := 1) hRC.out (.int .i64 n)).trans hR
    replace hC := heap_put (o := 1) hC (.int .i64 n)
    replace hC := hid1 hC
    generalize World.setCell _ _ _ = w6 at *
    replace hC := hC.out
    simp only [List.setIfInBounds_toArray, List.set_cons_zero, List.set_cons_succ] at hC
    clear y0 y1 y2 y3 y4 y5 y6 y7 y8 y9 y10 x0 x1 x2 x3 x4
    obtain ⟨y0, y1, y2, y3, y4, y5, y6, y7, y8, y9, y10⟩ := op_cells hO
    obtain ⟨x0, x1, x2, x3, x4⟩ := cl_cells hC
    have ce := call_end hR hbR.out bel (.int .i64 1) (.int .i64 n) (.int .u64 ((0 : Nat) : Int)) (.int .u64 ((0 : Nat) : Int)) (.int .u64 ((0 : Nat) : Int))
    obtain ⟨r0, r1, r2, r3, r4⟩ := five_cells hR
    have z0 := cells_free hR 0
    have z1 := cells_free hR 1
    have z2 := cells_free hR 2
    have z3 := cells_free hR 3
    have z4 := cells_free hR 4
    go_wp2
    refine bodyPost_ret (results_cell_row rfl _ _ bR 32 _ (0, 0) _ rfl ce.1 Try.underlying32 rfl (by kernel_rfl)) rfl ?_
    exact ⟨by first | (rw [← hfz.out]; rfl) | rw [← hfz.out], ce.2⟩
  have f1 : (kd == 1) = false := by simp [h1]
  have g1 : ¬ (1 ≤ kd ∧ kd ≤ 10) := by omega
  have g2 : ¬ (2 ≤ kd ∧ kd ≤ 10) := by omega
  have g3 : ¬ (kd = 3 ∨ kd = 5 ∨ kd = 7) := by omega
  have hfz2 := hfz.out
  unfold cnF chF cxF cyF at hfz2
  rw [if_neg g1, if_neg g2, if_neg g3, if_neg h5] at hfz2
  clear hfz g1 g2 g3 h1 h2 h3 h4 h5 h6 h7 h8 h9 h10
  replace hfz := hid1 hfz2
  obtain ⟨y0, y1, y2, y3, y4, y5, y6, y7, y8, y9, y10⟩ := op_cells hO
  obtain ⟨x0, x1, x2, x3, x4⟩ := cl_cells hC
  have ce := call_end hR hbR.out bel (.int .i64 kd) (.int .i64 0) (.int .u64 ((0 : Nat) : Int)) (.int .u64 ((0 : Nat) : Int)) (.int .u64 ((0 : Nat) : Int))
  obtain ⟨r0, r1, r2, r3, r4⟩ := five_cells hR
  have z0 := cells_free hR 0
  have z1 := cells_free hR 1
  have z2 := cells_free hR 2
  have z3 := cells_free hR 3
  have z4 := cells_free hR 4
  go_wp2
  refine bodyPost_ret (results_cell_row rfl _ _ bR 32 _ (0, 0) _ rfl ce.1 Try.underlying32 rfl (by kernel_rfl)) rfl ?_
  exact ⟨by first | (rw [← hfz.out]; rfl) | rw [← hfz.out], ce.2⟩
end Go.Proofs.Ytfllkacebhcbdaa
