/- The contract of head.Pack. -/
import Derived.Test.YtcioomopgdhlmaaGreatDoorHB
namespace Go.Proofs.YtcioomopgdhlmaaGreatDoor.Hh
open Go.RowKit

theorem new_at (w : World) (c : Array Value) (t : TypeId) (i : Nat) (v : Value) (h : c[i]? = some v) : (w.alloc (.cells c t)).cell? ⟨w.heap.size, i, none⟩ = some v := by
  have e : (w.alloc (.cells c t)).heap[w.heap.size]? = some (.cells c t) := (MapKept.heap_alloc w _).1
  unfold World.cell?
  simp only [e]
  exact h
theorem new_cell (w : World) (c : Array Value) (t : TypeId) (o : Obj) (i : Nat) (v : Value) (h : c[i]? = some v) : ((w.alloc (.cells c t)).drew.alloc o).cell? ⟨w.heap.size, i, none⟩ = some v :=
  (World.cell?_alloc_lt _ _ _ (lt_of_block (MapKept.heap_alloc w (.cells c t)).1)).trans (new_at w c t i v h)

theorem pack_call (w : World) (K M G A N S : Nat) (bK : K < 18446744073709551616) (bM : M < 18446744073709551616) (bG : G < 18446744073709551616) (bA : A < 18446744073709551616) (bN : N < 18446744073709551616) (bS : S < 18446744073709551616) :
    Calls Tryz.prog 77 #[.slice (some ⟨w.heap.size, 0, none⟩) 7 7] (w.alloc (Obj.cells #[Value.int IntKind.i64 3, Value.int IntKind.u64 (K : Nat), Value.int IntKind.i64 1, Value.int IntKind.u64 (M : Nat), Value.int IntKind.i64 1, Value.int IntKind.u64 (G : Nat), Value.int IntKind.i64 4, Value.int IntKind.u64 (A : Nat), Value.int IntKind.i64 7, Value.int IntKind.u64 0, Value.int IntKind.i64 32, Value.int IntKind.u64 (N : Nat), Value.int IntKind.i64 16, Value.int IntKind.u64 (S : Nat)] 105)) fun e w' =>
      e = .returned (.tuple #[.int .u64 ((((packSt (fun i => (wd i : Int)) (num7 K M G A N S) 7).getD (0, 0)).1 : Nat) : Int), .bool (packSt (fun i => (wd i : Int)) (num7 K M G A N S) 7).isSome]) ∧ Below w.heap.size w w' := by
  refine (pack_some (fun i => (wd i : Int)) (num7 K M G A N S) w.heap.size 0 7 7 _ ?_ ?_ ?_ ?_ (by omega) (lt_of_block (MapKept.heap_alloc w _).1)).mono fun e w' ⟨h1, h2⟩ => ⟨h1, ?_⟩
  · intro i hi
    have h7 : i = 0 ∨ i = 1 ∨ i = 2 ∨ i = 3 ∨ i = 4 ∨ i = 5 ∨ i = 6 := by omega
    rcases h7 with rfl | rfl | rfl | rfl | rfl | rfl | rfl <;> exact new_at w _ 105 _ _ rfl
  · intro i hi
    have h7 : i = 0 ∨ i = 1 ∨ i = 2 ∨ i = 3 ∨ i = 4 ∨ i = 5 ∨ i = 6 := by omega
    rcases h7 with rfl | rfl | rfl | rfl | rfl | rfl | rfl <;> exact new_at w _ 105 _ _ rfl
  · intro i hi
    have h7 : i = 0 ∨ i = 1 ∨ i = 2 ∨ i = 3 ∨ i = 4 ∨ i = 5 ∨ i = 6 := by omega
    rcases h7 with rfl | rfl | rfl | rfl | rfl | rfl | rfl <;> decide
  · intro i hi
    have h7 : i = 0 ∨ i = 1 ∨ i = 2 ∨ i = 3 ∨ i = 4 ∨ i = 5 ∨ i = 6 := by omega
    rcases h7 with rfl | rfl | rfl | rfl | rfl | rfl | rfl <;> first | assumption | (show (0 : Nat) < 18446744073709551616; decide)
  · exact seq_below ((Below.refl w.heap.size w).alloc (Nat.le_refl _) _) h2

set_option maxHeartbeats 4000000 in
theorem hpack_ok (k : Nat) (m : Int) (g : Bool) (a n s : Int) (M A N S : Nat) (hk : k ≤ 4) (hm : IntKind.u64.wrap m = (M : Int)) (ha : IntKind.u64.wrap a = (A : Int)) (hn : IntKind.u64.wrap n = (N : Int)) (hs : IntKind.u64.wrap s = (S : Int))
    (bM : M < 18446744073709551616) (bA : A < 18446744073709551616) (bN : N < 18446744073709551616) (bS : S < 18446744073709551616) (w : World) (hw : WT w) :
    Calls Tryz.prog 53 #[.agg #[.int .i64 (k : Nat), .int .i64 m, .bool g, .int .i64 a, .int .i64 n, .int .i64 s]] w fun e w' =>
      e = .returned (.tuple #[.int .u64 ((((packSt (fun i => (wd i : Int)) (num7 k M g.toNat A N S) 7).getD (0, 0)).1 : Nat) : Int), .bool (packSt (fun i => (wd i : Int)) (num7 k M g.toNat A N S) 7).isSome]) ∧ Below w.heap.size w w' := by
  have c := isKind_any k
  rw [show kindOk k = true by unfold kindOk; simp; omega] at c
  have c2 := flag_any g
  go_enter Tryz.func53, Tryz.ntmps53
  go_upto_region 3 with (go_at_call 75; refine (c _).mono ?_; rintro e w' ⟨rfl, rfl⟩)
  have hh : IsHd (w.alloc (Obj.cells #[Value.int IntKind.i64 k, Value.int IntKind.i64 m, Value.bool g, Value.int IntKind.i64 a, Value.int IntKind.i64 n, Value.int IntKind.i64 s] 57)) w.heap.size k m g a n s := (MapKept.heap_alloc w _).1
  have hb1 : Below w.heap.size w (w.alloc (Obj.cells #[Value.int IntKind.i64 k, Value.int IntKind.i64 m, Value.bool g, Value.int IntKind.i64 a, Value.int IntKind.i64 n, Value.int IntKind.i64 s] 57)) := (Below.refl w.heap.size w).alloc (Nat.le_refl _) _
  generalize w.alloc (Obj.cells #[Value.int IntKind.i64 k, Value.int IntKind.i64 m, Value.bool g, Value.int IntKind.i64 a, Value.int IntKind.i64 n, Value.int IntKind.i64 s] 57) = w1 at hh hb1 ⊢
  have hlt : w.heap.size < w1.heap.size := lt_of_block hh
  obtain ⟨h0, h1, h2, h3, h4, h5⟩ := hh.cells
  have HB : Hid (Below w.heap.size w w1) := hb1
  have HW : Hid (WT w) := hw
  clear hb1 hh hw
  go_region_held (fun w' => w'.cell? ⟨w.heap.size, 0, none⟩ = some (.int .i64 k) ∧ w'.cell? ⟨w.heap.size, 1, none⟩ = some (.int .i64 m) ∧ w'.cell? ⟨w.heap.size, 2, none⟩ = some (.bool g) ∧ w'.cell? ⟨w.heap.size, 3, none⟩ = some (.int .i64 a) ∧ w'.cell? ⟨w.heap.size, 4, none⟩ = some (.int .i64 n) ∧ w'.cell? ⟨w.heap.size, 5, none⟩ = some (.int .i64 s)) (go_keep) (first | (go_at_call 76; refine (c2 _).mono ?_; rintro e w' ⟨rfl, rfl⟩))
  all_goals
    have hG : g.toNat ≤ 1 := by cases g <;> decide
    generalize hGe : g.toNat = G at *
    have hb2 : Below w.heap.size w (w1.alloc (Obj.cells #[Value.int IntKind.i64 k, Value.int IntKind.i64 m, Value.int IntKind.i64 G, Value.int IntKind.i64 a, Value.int IntKind.i64 0, Value.int IntKind.i64 n, Value.int IntKind.i64 s] 100)).drew := (HB.out.alloc HB.out.size _).drew
    have t0 := fun o => new_cell w1 #[Value.int IntKind.i64 k, Value.int IntKind.i64 m, Value.int IntKind.i64 G, Value.int IntKind.i64 a, Value.int IntKind.i64 0, Value.int IntKind.i64 n, Value.int IntKind.i64 s] 100 o 0 _ rfl
    have t1 := fun o => new_cell w1 #[Value.int IntKind.i64 k, Value.int IntKind.i64 m, Value.int IntKind.i64 G, Value.int IntKind.i64 a, Value.int IntKind.i64 0, Value.int IntKind.i64 n, Value.int IntKind.i64 s] 100 o 1 _ rfl
    have t2 := fun o => new_cell w1 #[Value.int IntKind.i64 k, Value.int IntKind.i64 m, Value.int IntKind.i64 G, Value.int IntKind.i64 a, Value.int IntKind.i64 0, Value.int IntKind.i64 n, Value.int IntKind.i64 s] 100 o 2 _ rfl
    have t3 := fun o => new_cell w1 #[Value.int IntKind.i64 k, Value.int IntKind.i64 m, Value.int IntKind.i64 G, Value.int IntKind.i64 a, Value.int IntKind.i64 0, Value.int IntKind.i64 n, Value.int IntKind.i64 s] 100 o 3 _ rfl
    have t4 := fun o => new_cell w1 #[Value.int IntKind.i64 k, Value.int IntKind.i64 m, Value.int IntKind.i64 G, Value.int IntKind.i64 a, Value.int IntKind.i64 0, Value.int IntKind.i64 n, Value.int IntKind.i64 s] 100 o 4 _ rfl
    have t5 := fun o => new_cell w1 #[Value.int IntKind.i64 k, Value.int IntKind.i64 m, Value.int IntKind.i64 G, Value.int IntKind.i64 a, Value.int IntKind.i64 0, Value.int IntKind.i64 n, Value.int IntKind.i64 s] 100 o 5 _ rfl
    have t6 := fun o => new_cell w1 #[Value.int IntKind.i64 k, Value.int IntKind.i64 m, Value.int IntKind.i64 G, Value.int IntKind.i64 a, Value.int IntKind.i64 0, Value.int IntKind.i64 n, Value.int IntKind.i64 s] 100 o 6 _ rfl
    generalize (w1.alloc (Obj.cells #[Value.int IntKind.i64 k, Value.int IntKind.i64 m, Value.int IntKind.i64 G, Value.int IntKind.i64 a, Value.int IntKind.i64 0, Value.int IntKind.i64 n, Value.int IntKind.i64 s] 100)).drew = w2 at hb2 t0 t1 t2 t3 t4 t5 t6 ⊢
    have hz : w.heap.size ≤ w2.heap.size := hb2.size
    have hwt : ∀ i, i < 7 → ∀ o, (w2.alloc o).cell? ⟨0, i, none⟩ = some (.int .i64 ((wd i : Nat) : Int)) := fun i hi o => ((hb2.alloc hz o).cell HW.out.lt).trans (HW.out i hi)
    have x0 := hwt 0 (by omega)
    have x1 := hwt 1 (by omega)
    have x2 := hwt 2 (by omega)
    have x3 := hwt 3 (by omega)
    have x4 := hwt 4 (by omega)
    have x5 := hwt 5 (by omega)
    have x6 := hwt 6 (by omega)
    simp only [wd, List.getD_cons_zero, List.getD_cons_succ] at x0 x1 x2 x3 x4 x5 x6
    have HB2 : Hid (Below w.heap.size w w2) := hb2
    have y0 := ix0
    have y1 := ix1
    have y2 := ix2
    have y3 := ix3
    have y4 := ix4
    have y5 := ix5
    have y6 := ix6
    clear hwt hb2 h0 h1 h2 h3 h4 h5 HB HW c c2
    go_wp2
    refine wp_loop_rounds 8 ?_
    rw [rounds_succ]
    go_wp2
    rw [rounds_succ]
    go_wp2
    rw [rounds_succ]
    go_wp2
    rw [rounds_succ]
    go_wp2
    rw [rounds_succ]
    go_wp2
    rw [rounds_succ]
    go_wp2
    rw [rounds_succ]
    go_wp2
    rw [rounds_succ]
    go_wp2_with (first | (go_at_call 77; refine (pack_call w2 k M G A N S (by omega) bM (by omega) bA bN bS).mono ?_; rintro e w3 ⟨rfl, hb3⟩))
    go_ret2
    refine ⟨?_, seq_below HB2.out hb3⟩
    rw [hGe]
    rfl
end Go.Proofs.YtcioomopgdhlmaaGreatDoor.Hh
