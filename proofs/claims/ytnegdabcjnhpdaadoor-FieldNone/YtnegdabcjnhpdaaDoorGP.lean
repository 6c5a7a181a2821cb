/- Machines of package field that are not made: a place that there is none, or no book. -/
import Derived.Test.YtnegdabcjnhpdaaDoorGE
namespace Go.Proofs.YtnegdabcjnhpdaaDoor
open Go.RowKit
open Mm (IsMem MS touched Only)
open Hh (WT)

set_option maxRecDepth 100000 in
set_option maxHeartbeats 2000000 in
theorem newRead_no {s a c d g k ri iz : Int} {F : Int} {B : Nat} {pb : Value} (cN : ∀ w, Calls Tryd.prog 36 #[.agg #[.int .i64 s, .int .i64 a, .int .i64 c, .int .i64 d, .int .i64 g, .int .i64 k], .int .i64 ri, .int .i64 iz, pb] w fun e w' => e = .returned (.tuple #[nwV s a c d g k F B, .bool false]) ∧ Below w.heap.size w w') (w : World) :
    Calls Tryd.prog 11 #[.agg #[.int .i64 s, .int .i64 a, .int .i64 c, .int .i64 d, .int .i64 g, .int .i64 k], .int .i64 ri, .int .i64 iz, pb] w fun e w' => e = .returned (.pointer none) ∧ Below w.heap.size w w' := by
  have b1 := alloc_below w (.cells #[.int .i64 s, .int .i64 a, .int .i64 c, .int .i64 d, .int .i64 g, .int .i64 k] 42)
  have hh := cfg_new w s a c d g k
  unfold nwV at cN
  go_enter Tryd.func11, Tryd.ntmps11
  go_upto_region 1 with fail
  generalize (w.alloc (.cells #[.int .i64 s, .int .i64 a, .int .i64 c, .int .i64 d, .int .i64 g, .int .i64 k] 42)) = w2 at *
  obtain ⟨l0, l1, l2, l3, l4, l5⟩ := hh.cells
  go_wp2_with (go_at_call 36; refine (cN _).mono ?_; rintro e w3 ⟨rfl, b⟩; replace b1 := seq_below b1 b; clear l0 l1 l2 l3 l4 l5)
  go_ret
  exact ⟨rfl, b1.alloc b1.size _⟩
end Go.Proofs.YtnegdabcjnhpdaaDoor
/- Machines of package field that are not made: a place that there is none, or no book. -/
namespace Go.Proofs.YtnegdabcjnhpdaaDoor
open Go.RowKit
open Mm (IsMem MS touched Only)
open Hh (WT)

set_option maxRecDepth 100000 in
set_option maxHeartbeats 2000000 in
theorem newSee_no {s a c d g k ri iz : Int} {F : Int} {B : Nat} {pb : Value} {v : Nat} (cN : ∀ w, Calls Tryd.prog 36 #[.agg #[.int .i64 s, .int .i64 a, .int .i64 c, .int .i64 d, .int .i64 g, .int .i64 k], .int .i64 ri, .int .i64 iz, pb] w fun e w' => e = .returned (.tuple #[nwV s a c d g k F B, .bool false]) ∧ Below w.heap.size w w') (w : World) :
    Calls Tryd.prog 20 #[.agg #[.int .i64 s, .int .i64 a, .int .i64 c, .int .i64 d, .int .i64 g, .int .i64 k], .int .i64 ri, .int .i64 iz, .int .u64 (v : Nat), pb] w fun e w' => e = .returned (.pointer none) ∧ Below w.heap.size w w' := by
  have b1 := alloc_below w (.cells #[.int .i64 s, .int .i64 a, .int .i64 c, .int .i64 d, .int .i64 g, .int .i64 k] 42)
  have hh := cfg_new w s a c d g k
  unfold nwV at cN
  go_enter Tryd.func20, Tryd.ntmps20
  go_upto_region 1 with fail
  generalize (w.alloc (.cells #[.int .i64 s, .int .i64 a, .int .i64 c, .int .i64 d, .int .i64 g, .int .i64 k] 42)) = w2 at *
  obtain ⟨l0, l1, l2, l3, l4, l5⟩ := hh.cells
  go_wp2_with (go_at_call 36; refine (cN _).mono ?_; rintro e w3 ⟨rfl, b⟩; replace b1 := seq_below b1 b; clear l0 l1 l2 l3 l4 l5)
  go_ret
  exact ⟨rfl, b1.alloc b1.size _⟩
end Go.Proofs.YtnegdabcjnhpdaaDoor
/- Machines of package field that are not made: a place that there is none, or no book. -/
namespace Go.Proofs.YtnegdabcjnhpdaaDoor
open Go.RowKit
open Mm (IsMem MS touched Only)
open Hh (WT)

set_option maxRecDepth 100000 in
set_option maxHeartbeats 2000000 in
theorem newLay_no {s a c d g k ri iz : Int} {F : Int} {B : Nat} {pb : Value} {fr ex : Int} {ep : Nat} (cN : ∀ w, Calls Tryd.prog 36 #[.agg #[.int .i64 s, .int .i64 a, .int .i64 c, .int .i64 d, .int .i64 g, .int .i64 k], .int .i64 ri, .int .i64 iz, pb] w fun e w' => e = .returned (.tuple #[nwV s a c d g k F B, .bool false]) ∧ Below w.heap.size w w') (w : World) :
    Calls Tryd.prog 16 #[.agg #[.int .i64 s, .int .i64 a, .int .i64 c, .int .i64 d, .int .i64 g, .int .i64 k], .int .i64 ri, .int .i64 iz, .int .i64 fr, .int .i64 ex, .int .u64 (ep : Nat), pb] w fun e w' => e = .returned (.pointer none) ∧ Below w.heap.size w w' := by
  have b1 := alloc_below w (.cells #[.int .i64 s, .int .i64 a, .int .i64 c, .int .i64 d, .int .i64 g, .int .i64 k] 42)
  have hh := cfg_new w s a c d g k
  unfold nwV at cN
  go_enter Tryd.func16, Tryd.ntmps16
  go_upto_region 1 with fail
  generalize (w.alloc (.cells #[.int .i64 s, .int .i64 a, .int .i64 c, .int .i64 d, .int .i64 g, .int .i64 k] 42)) = w2 at *
  obtain ⟨l0, l1, l2, l3, l4, l5⟩ := hh.cells
  go_wp2_with (go_at_call 36; refine (cN _).mono ?_; rintro e w3 ⟨rfl, b⟩; replace b1 := seq_below b1 b; clear l0 l1 l2 l3 l4 l5)
  go_ret
  exact ⟨rfl, b1.alloc b1.size _⟩
end Go.Proofs.YtnegdabcjnhpdaaDoor
/- Machines of package field that are not made: there is no book. -/
namespace Go.Proofs.YtnegdabcjnhpdaaDoor
open Go.RowKit
open Mm (IsMem MS touched Only)
open Hh (WT)

def nwN (s a c d g k F : Int) : Value := .agg #[(.int .i64 s), (.int .i64 a), (.int .i64 c), (.int .i64 d), (.int .i64 g), (.int .i64 k), (.pointer none), (.int .i64 F), (.int .u64 0), (.int .i64 0), (.int .i64 (-1)), (.pointer none), (.int .i64 0), (.int .i64 0), (.int .i64 0), (.int .u64 0), (.int .i64 0), (.bool false)]
set_option maxRecDepth 100000 in
set_option maxHeartbeats 2000000 in
theorem newestOf_nil {s a c d g k ri iz : Int} {F : Int}  (cB : ∀ w, Calls Tryd.prog 42 #[.agg #[(.int .i64 s), (.int .i64 a), (.int .i64 c), (.int .i64 d), (.int .i64 g), (.int .i64 k)], .int .i64 ri, .int .i64 iz] w fun e w' => e = .returned (.int .i64 F) ∧ Below w.heap.size w w') (w : World) :
    Calls Tryd.prog 36 #[.agg #[(.int .i64 s), (.int .i64 a), (.int .i64 c), (.int .i64 d), (.int .i64 g), (.int .i64 k)], .int .i64 ri, .int .i64 iz, .pointer none] w fun e w' => e = .returned (.tuple #[nwN s a c d g k F, .bool false]) ∧ Below w.heap.size w w' := by
  by_cases hF : F < 0
  · have b1 := alloc_below w (.cells #[(.int .i64 s), (.int .i64 a), (.int .i64 c), (.int .i64 d), (.int .i64 g), (.int .i64 k)] 42)
    have hh := cfg_new w s a c d g k
    have hz : (w.alloc (.cells #[(.int .i64 s), (.int .i64 a), (.int .i64 c), (.int .i64 d), (.int .i64 g), (.int .i64 k)] 42)).heap.size = w.heap.size + 1 := by simp
    have b2 := alloc_below (w.alloc (.cells #[(.int .i64 s), (.int .i64 a), (.int .i64 c), (.int .i64 d), (.int .i64 g), (.int .i64 k)] 42)) (.cells #[(.int .i64 0), (.int .i64 0), (.int .i64 0), (.int .i64 0), (.int .i64 0), (.int .i64 0), (.pointer none), (.int .i64 0), (.int .u64 0), (.int .i64 0), (.int .i64 0), (.pointer none), (.int .i64 0), (.int .i64 0), (.int .i64 0), (.int .u64 0), (.int .i64 0), (.bool false)] 56)
    have h2 : Blk _ _ _ 56 := new_obj (w.alloc (.cells #[(.int .i64 s), (.int .i64 a), (.int .i64 c), (.int .i64 d), (.int .i64 g), (.int .i64 k)] 42)) (.cells #[(.int .i64 0), (.int .i64 0), (.int .i64 0), (.int .i64 0), (.int .i64 0), (.int .i64 0), (.pointer none), (.int .i64 0), (.int .u64 0), (.int .i64 0), (.int .i64 0), (.pointer none), (.int .i64 0), (.int .i64 0), (.int .i64 0), (.int .u64 0), (.int .i64 0), (.bool false)] 56)
    rw [hz] at h2
    replace hh := hh.below b2
    have bel := seq_below b1 b2
    clear b1 b2 hz
    go_enter Tryd.func36, Tryd.ntmps36
    go_upto_region 1 with fail
    generalize (w.alloc (.cells #[(.int .i64 s), (.int .i64 a), (.int .i64 c), (.int .i64 d), (.int .i64 g), (.int .i64 k)] 42)).alloc (.cells #[(.int .i64 0), (.int .i64 0), (.int .i64 0), (.int .i64 0), (.int .i64 0), (.int .i64 0), (.pointer none), (.int .i64 0), (.int .u64 0), (.int .i64 0), (.int .i64 0), (.pointer none), (.int .i64 0), (.int .i64 0), (.int .i64 0), (.int .u64 0), (.int .i64 0), (.bool false)] 56) = w2 at *
    obtain ⟨l0, l1, l2, l3, l4, l5⟩ := hh.cells
    go_upto_region 2 with (go_at_call 42; refine (cB _).mono ?_; rintro e w3 ⟨rfl, b⟩; replace h2 := h2.below b; replace hh := hh.below b; replace bel := seq_below bel b)
    clear l0 l1 l2 l3 l4 l5
    obtain ⟨l0, l1, l2, l3, l4, l5⟩ := hh.cells
    have o1 : ((#[(.int .i64 s), (.int .i64 a), (.int .i64 c), (.int .i64 d), (.int .i64 g), (.int .i64 k), (.pointer none), (.int .i64 F), (.int .u64 0), (.int .i64 0), (.int .i64 (-1)), (.pointer none), (.int .i64 0), (.int .i64 0), (.int .i64 0), (.int .u64 0), (.int .i64 0), (.bool false)] : Array Value).all (·.oneCell')) = true := by kernel_rfl
    go_wp2_with (refine wpList_store_row rfl 56 _ _ rfl (w.heap.size + 1) (#[(.int .i64 s), (.int .i64 a), (.int .i64 c), (.int .i64 d), (.int .i64 g), (.int .i64 k), (.pointer none), (.int .i64 F), (.int .u64 0), (.int .i64 0), (.int .i64 (-1)), (.pointer none), (.int .i64 0), (.int .i64 0), (.int .i64 0), (.int .u64 0), (.int .i64 0), (.bool false)] : Array Value) rfl rfl 56 _ h2 (by kernel_rfl) rfl o1 ?_)
    have h3 : Blk (w3.setRow (w.heap.size + 1) (#[(.int .i64 s), (.int .i64 a), (.int .i64 c), (.int .i64 d), (.int .i64 g), (.int .i64 k), (.pointer none), (.int .i64 F), (.int .u64 0), (.int .i64 0), (.int .i64 (-1)), (.pointer none), (.int .i64 0), (.int .i64 0), (.int .i64 0), (.int .u64 0), (.int .i64 0), (.bool false)] : Array Value)) (w.heap.size + 1) #[(.int .i64 s), (.int .i64 a), (.int .i64 c), (.int .i64 d), (.int .i64 g), (.int .i64 k), (.pointer none), (.int .i64 F), (.int .u64 0), (.int .i64 0), (.int .i64 (-1)), (.pointer none), (.int .i64 0), (.int .i64 0), (.int .i64 0), (.int .u64 0), (.int .i64 0), (.bool false)] 56 := setRow_heap _ _ _ _ _ _ h2
    have bel9 := below_setRow bel (by omega : w.heap.size ≤ w.heap.size + 1) (#[(.int .i64 s), (.int .i64 a), (.int .i64 c), (.int .i64 d), (.int .i64 g), (.int .i64 k), (.pointer none), (.int .i64 F), (.int .u64 0), (.int .i64 0), (.int .i64 (-1)), (.pointer none), (.int .i64 0), (.int .i64 0), (.int .i64 0), (.int .u64 0), (.int .i64 0), (.bool false)] : Array Value)
    clear h2 bel o1 b hh cB l0 l1 l2 l3 l4 l5
    generalize w3.setRow (w.heap.size + 1) (#[(.int .i64 s), (.int .i64 a), (.int .i64 c), (.int .i64 d), (.int .i64 g), (.int .i64 k), (.pointer none), (.int .i64 F), (.int .u64 0), (.int .i64 0), (.int .i64 (-1)), (.pointer none), (.int .i64 0), (.int .i64 0), (.int .i64 0), (.int .u64 0), (.int .i64 0), (.bool false)] : Array Value) = w9 at *
    obtain ⟨D, hu⟩ := und56
    have rl : (loadVar 56 ⟨w.heap.size + 1, 0, none⟩).run Tryd.prog w9 = .ok (nwN s a c d g k F) w9 := run_loadVar_row w9 (w.heap.size + 1) 56 56 _ (0, 0) (.struct D) h3 hu rfl (by kernel_rfl)
    refine bodyPost_ret (v := .tuple #[nwN s a c d g k F, .bool false]) (by simp [results, Tryd.results36, asAddr, rl]) rfl ?_
    exact ⟨rfl, bel9⟩
  · have b1 := alloc_below w (.cells #[(.int .i64 s), (.int .i64 a), (.int .i64 c), (.int .i64 d), (.int .i64 g), (.int .i64 k)] 42)
    have hh := cfg_new w s a c d g k
    have hz : (w.alloc (.cells #[(.int .i64 s), (.int .i64 a), (.int .i64 c), (.int .i64 d), (.int .i64 g), (.int .i64 k)] 42)).heap.size = w.heap.size + 1 := by simp
    have b2 := alloc_below (w.alloc (.cells #[(.int .i64 s), (.int .i64 a), (.int .i64 c), (.int .i64 d), (.int .i64 g), (.int .i64 k)] 42)) (.cells #[(.int .i64 0), (.int .i64 0), (.int .i64 0), (.int .i64 0), (.int .i64 0), (.int .i64 0), (.pointer none), (.int .i64 0), (.int .u64 0), (.int .i64 0), (.int .i64 0), (.pointer none), (.int .i64 0), (.int .i64 0), (.int .i64 0), (.int .u64 0), (.int .i64 0), (.bool false)] 56)
    have h2 : Blk _ _ _ 56 := new_obj (w.alloc (.cells #[(.int .i64 s), (.int .i64 a), (.int .i64 c), (.int .i64 d), (.int .i64 g), (.int .i64 k)] 42)) (.cells #[(.int .i64 0), (.int .i64 0), (.int .i64 0), (.int .i64 0), (.int .i64 0), (.int .i64 0), (.pointer none), (.int .i64 0), (.int .u64 0), (.int .i64 0), (.int .i64 0), (.pointer none), (.int .i64 0), (.int .i64 0), (.int .i64 0), (.int .u64 0), (.int .i64 0), (.bool false)] 56)
    rw [hz] at h2
    replace hh := hh.below b2
    have bel := seq_below b1 b2
    clear b1 b2 hz
    go_enter Tryd.func36, Tryd.ntmps36
    go_upto_region 1 with fail
    generalize (w.alloc (.cells #[(.int .i64 s), (.int .i64 a), (.int .i64 c), (.int .i64 d), (.int .i64 g), (.int .i64 k)] 42)).alloc (.cells #[(.int .i64 0), (.int .i64 0), (.int .i64 0), (.int .i64 0), (.int .i64 0), (.int .i64 0), (.pointer none), (.int .i64 0), (.int .u64 0), (.int .i64 0), (.int .i64 0), (.pointer none), (.int .i64 0), (.int .i64 0), (.int .i64 0), (.int .u64 0), (.int .i64 0), (.bool false)] 56) = w2 at *
    obtain ⟨l0, l1, l2, l3, l4, l5⟩ := hh.cells
    go_upto_region 2 with (go_at_call 42; refine (cB _).mono ?_; rintro e w3 ⟨rfl, b⟩; replace h2 := h2.below b; replace hh := hh.below b; replace bel := seq_below bel b)
    clear l0 l1 l2 l3 l4 l5
    obtain ⟨l0, l1, l2, l3, l4, l5⟩ := hh.cells
    have o1 : ((#[(.int .i64 s), (.int .i64 a), (.int .i64 c), (.int .i64 d), (.int .i64 g), (.int .i64 k), (.pointer none), (.int .i64 F), (.int .u64 0), (.int .i64 0), (.int .i64 (-1)), (.pointer none), (.int .i64 0), (.int .i64 0), (.int .i64 0), (.int .u64 0), (.int .i64 0), (.bool false)] : Array Value).all (·.oneCell')) = true := by kernel_rfl
    go_wp2_with (refine wpList_store_row rfl 56 _ _ rfl (w.heap.size + 1) (#[(.int .i64 s), (.int .i64 a), (.int .i64 c), (.int .i64 d), (.int .i64 g), (.int .i64 k), (.pointer none), (.int .i64 F), (.int .u64 0), (.int .i64 0), (.int .i64 (-1)), (.pointer none), (.int .i64 0), (.int .i64 0), (.int .i64 0), (.int .u64 0), (.int .i64 0), (.bool false)] : Array Value) rfl rfl 56 _ h2 (by kernel_rfl) rfl o1 ?_)
    have h3 : Blk (w3.setRow (w.heap.size + 1) (#[(.int .i64 s), (.int .i64 a), (.int .i64 c), (.int .i64 d), (.int .i64 g), (.int .i64 k), (.pointer none), (.int .i64 F), (.int .u64 0), (.int .i64 0), (.int .i64 (-1)), (.pointer none), (.int .i64 0), (.int .i64 0), (.int .i64 0), (.int .u64 0), (.int .i64 0), (.bool false)] : Array Value)) (w.heap.size + 1) #[(.int .i64 s), (.int .i64 a), (.int .i64 c), (.int .i64 d), (.int .i64 g), (.int .i64 k), (.pointer none), (.int .i64 F), (.int .u64 0), (.int .i64 0), (.int .i64 (-1)), (.pointer none), (.int .i64 0), (.int .i64 0), (.int .i64 0), (.int .u64 0), (.int .i64 0), (.bool false)] 56 := setRow_heap _ _ _ _ _ _ h2
    have bel9 := below_setRow bel (by omega : w.heap.size ≤ w.heap.size + 1) (#[(.int .i64 s), (.int .i64 a), (.int .i64 c), (.int .i64 d), (.int .i64 g), (.int .i64 k), (.pointer none), (.int .i64 F), (.int .u64 0), (.int .i64 0), (.int .i64 (-1)), (.pointer none), (.int .i64 0), (.int .i64 0), (.int .i64 0), (.int .u64 0), (.int .i64 0), (.bool false)] : Array Value)
    clear h2 bel o1 b hh cB l0 l1 l2 l3 l4 l5
    generalize w3.setRow (w.heap.size + 1) (#[(.int .i64 s), (.int .i64 a), (.int .i64 c), (.int .i64 d), (.int .i64 g), (.int .i64 k), (.pointer none), (.int .i64 F), (.int .u64 0), (.int .i64 0), (.int .i64 (-1)), (.pointer none), (.int .i64 0), (.int .i64 0), (.int .i64 0), (.int .u64 0), (.int .i64 0), (.bool false)] : Array Value) = w9 at *
    obtain ⟨D, hu⟩ := und56
    have rl : (loadVar 56 ⟨w.heap.size + 1, 0, none⟩).run Tryd.prog w9 = .ok (nwN s a c d g k F) w9 := run_loadVar_row w9 (w.heap.size + 1) 56 56 _ (0, 0) (.struct D) h3 hu rfl (by kernel_rfl)
    refine bodyPost_ret (v := .tuple #[nwN s a c d g k F, .bool false]) (by simp [results, Tryd.results36, asAddr, rl]) rfl ?_
    exact ⟨rfl, bel9⟩
end Go.Proofs.YtnegdabcjnhpdaaDoor
/- Machines of package field that are not made: a place that there is none, or no book. -/
namespace Go.Proofs.YtnegdabcjnhpdaaDoor
open Go.RowKit
open Mm (IsMem MS touched Only)
open Hh (WT)

set_option maxRecDepth 100000 in
set_option maxHeartbeats 2000000 in
theorem newRead_nil {s a c d g k ri iz : Int} {F : Int} {pb : Value} (cN : ∀ w, Calls Tryd.prog 36 #[.agg #[.int .i64 s, .int .i64 a, .int .i64 c, .int .i64 d, .int .i64 g, .int .i64 k], .int .i64 ri, .int .i64 iz, pb] w fun e w' => e = .returned (.tuple #[nwN s a c d g k F, .bool false]) ∧ Below w.heap.size w w') (w : World) :
    Calls Tryd.prog 11 #[.agg #[.int .i64 s, .int .i64 a, .int .i64 c, .int .i64 d, .int .i64 g, .int .i64 k], .int .i64 ri, .int .i64 iz, pb] w fun e w' => e = .returned (.pointer none) ∧ Below w.heap.size w w' := by
  have b1 := alloc_below w (.cells #[.int .i64 s, .int .i64 a, .int .i64 c, .int .i64 d, .int .i64 g, .int .i64 k] 42)
  have hh := cfg_new w s a c d g k
  unfold nwN at cN
  go_enter Tryd.func11, Tryd.ntmps11
  go_upto_region 1 with fail
  generalize (w.alloc (.cells #[.int .i64 s, .int .i64 a, .int .i64 c, .int .i64 d, .int .i64 g, .int .i64 k] 42)) = w2 at *
  obtain ⟨l0, l1, l2, l3, l4, l5⟩ := hh.cells
  go_wp2_with (go_at_call 36; refine (cN _).mono ?_; rintro e w3 ⟨rfl, b⟩; replace b1 := seq_below b1 b; clear l0 l1 l2 l3 l4 l5)
  go_ret
  exact ⟨rfl, b1.alloc b1.size _⟩
end Go.Proofs.YtnegdabcjnhpdaaDoor
/- Machines of package field that are not made: a place that there is none, or no book. -/
namespace Go.Proofs.YtnegdabcjnhpdaaDoor
open Go.RowKit
open Mm (IsMem MS touched Only)
open Hh (WT)

set_option maxRecDepth 100000 in
set_option maxHeartbeats 2000000 in
theorem newSee_nil {s a c d g k ri iz : Int} {F : Int} {pb : Value} {v : Nat} (cN : ∀ w, Calls Tryd.prog 36 #[.agg #[.int .i64 s, .int .i64 a, .int .i64 c, .int .i64 d, .int .i64 g, .int .i64 k], .int .i64 ri, .int .i64 iz, pb] w fun e w' => e = .returned (.tuple #[nwN s a c d g k F, .bool false]) ∧ Below w.heap.size w w') (w : World) :
    Calls Tryd.prog 20 #[.agg #[.int .i64 s, .int .i64 a, .int .i64 c, .int .i64 d, .int .i64 g, .int .i64 k], .int .i64 ri, .int .i64 iz, .int .u64 (v : Nat), pb] w fun e w' => e = .returned (.pointer none) ∧ Below w.heap.size w w' := by
  have b1 := alloc_below w (.cells #[.int .i64 s, .int .i64 a, .int .i64 c, .int .i64 d, .int .i64 g, .int .i64 k] 42)
  have hh := cfg_new w s a c d g k
  unfold nwN at cN
  go_enter Tryd.func20, Tryd.ntmps20
  go_upto_region 1 with fail
  generalize (w.alloc (.cells #[.int .i64 s, .int .i64 a, .int .i64 c, .int .i64 d, .int .i64 g, .int .i64 k] 42)) = w2 at *
  obtain ⟨l0, l1, l2, l3, l4, l5⟩ := hh.cells
  go_wp2_with (go_at_call 36; refine (cN _).mono ?_; rintro e w3 ⟨rfl, b⟩; replace b1 := seq_below b1 b; clear l0 l1 l2 l3 l4 l5)
  go_ret
  exact ⟨rfl, b1.alloc b1.size _⟩
end Go.Proofs.YtnegdabcjnhpdaaDoor
/- Machines of package field that are not made: a place that there is none, or no book. -/
namespace Go.Proofs.YtnegdabcjnhpdaaDoor
open Go.RowKit
open Mm (IsMem MS touched Only)
open Hh (WT)

set_option maxRecDepth 100000 in
set_option maxHeartbeats 2000000 in
theorem newLay_nil {s a c d g k ri iz : Int} {F : Int} {pb : Value} {fr ex : Int} {ep : Nat} (cN : ∀ w, Calls Tryd.prog 36 #[.agg #[.int .i64 s, .int .i64 a, .int .i64 c, .int .i64 d, .int .i64 g, .int .i64 k], .int .i64 ri, .int .i64 iz, pb] w fun e w' => e = .returned (.tuple #[nwN s a c d g k F, .bool false]) ∧ Below w.heap.size w w') (w : World) :
    Calls Tryd.prog 16 #[.agg #[.int .i64 s, .int .i64 a, .int .i64 c, .int .i64 d, .int .i64 g, .int .i64 k], .int .i64 ri, .int .i64 iz, .int .i64 fr, .int .i64 ex, .int .u64 (ep : Nat), pb] w fun e w' => e = .returned (.pointer none) ∧ Below w.heap.size w w' := by
  have b1 := alloc_below w (.cells #[.int .i64 s, .int .i64 a, .int .i64 c, .int .i64 d, .int .i64 g, .int .i64 k] 42)
  have hh := cfg_new w s a c d g k
  unfold nwN at cN
  go_enter Tryd.func16, Tryd.ntmps16
  go_upto_region 1 with fail
  generalize (w.alloc (.cells #[.int .i64 s, .int .i64 a, .int .i64 c, .int .i64 d, .int .i64 g, .int .i64 k] 42)) = w2 at *
  obtain ⟨l0, l1, l2, l3, l4, l5⟩ := hh.cells
  go_wp2_with (go_at_call 36; refine (cN _).mono ?_; rintro e w3 ⟨rfl, b⟩; replace b1 := seq_below b1 b; clear l0 l1 l2 l3 l4 l5)
  go_ret
  exact ⟨rfl, b1.alloc b1.size _⟩
end Go.Proofs.YtnegdabcjnhpdaaDoor
