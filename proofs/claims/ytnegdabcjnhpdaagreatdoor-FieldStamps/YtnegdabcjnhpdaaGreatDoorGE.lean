/- Contracts of package field's machines as they are made. -/
import Derived.Test.YtnegdabcjnhpdaaGreatDoorGD
import Derived.Test.YtnegdabcjnhpdaaGreatDoorGC
import Derived.Test.YtnegdabcjnhpdaaGreatDoorGB
namespace Go.Proofs.YtnegdabcjnhpdaaGreatDoor
open Go.RowKit
open Mm (IsMem MS touched Only)
open Hh (WT fen fen_any)

theorem und56 : ∃ fs, Tryz.prog.underlying 88 = some (.struct fs) := by
  have h : ((Tryz.prog.underlying 88).map fun d => (match d with | .struct _ => true | _ => false)) = some true := by kernel_rfl
  cases hq : Tryz.prog.underlying 88 with
  | none => rw [hq] at h; cases h
  | some d => rw [hq] at h; cases d <;> first | exact ⟨_, rfl⟩ | (exfalso; revert h; simp)
theorem below_setRow {b : Nat} {w0 w : World} (h : Below b w0 w) {R : Nat} (hR : b ≤ R) (c : Array Value) : Below b w0 (w.setRow R c) :=
  ⟨h.os, h.tape, h.output, by have := h.size; simp [World.setRow]; exact this, fun i hi => by rw [setRow_other _ _ _ _ (by omega)]; exact h.block i hi⟩
set_option maxRecDepth 100000 in
set_option maxHeartbeats 2000000 in
theorem newestOf_yes {s a c d g k ri iz : Int} {F : Int} (hF : 0 ≤ F) {B : Nat} (cB : ∀ w, Calls Tryz.prog 37 #[.agg #[(.int .i64 s), (.int .i64 a), (.int .i64 c), (.int .i64 d), (.int .i64 g), (.int .i64 k)], .int .i64 ri, .int .i64 iz] w fun e w' => e = .returned (.int .i64 F) ∧ Below w.heap.size w w') (w : World) :
    Calls Tryz.prog 67 #[.agg #[(.int .i64 s), (.int .i64 a), (.int .i64 c), (.int .i64 d), (.int .i64 g), (.int .i64 k)], .int .i64 ri, .int .i64 iz, .pointer (some ⟨B, 0, none⟩)] w fun e w' => e = .returned (.tuple #[nwV s a c d g k F B, .bool true]) ∧ Below w.heap.size w w' := by
  have b1 := alloc_below w (.cells #[(.int .i64 s), (.int .i64 a), (.int .i64 c), (.int .i64 d), (.int .i64 g), (.int .i64 k)] 30)
  have hh := cfg_new w s a c d g k
  have hz : (w.alloc (.cells #[(.int .i64 s), (.int .i64 a), (.int .i64 c), (.int .i64 d), (.int .i64 g), (.int .i64 k)] 30)).heap.size = w.heap.size + 1 := by simp
  have b2 := alloc_below (w.alloc (.cells #[(.int .i64 s), (.int .i64 a), (.int .i64 c), (.int .i64 d), (.int .i64 g), (.int .i64 k)] 30)) (.cells #[(.int .i64 0), (.int .i64 0), (.int .i64 0), (.int .i64 0), (.int .i64 0), (.int .i64 0), (.pointer none), (.int .i64 0), (.int .u64 0), (.int .i64 0), (.int .i64 0), (.pointer none), (.int .i64 0), (.int .i64 0), (.int .i64 0), (.int .u64 0), (.int .i64 0), (.bool false)] 88)
  have h2 : Blk _ _ _ 88 := new_obj (w.alloc (.cells #[(.int .i64 s), (.int .i64 a), (.int .i64 c), (.int .i64 d), (.int .i64 g), (.int .i64 k)] 30)) (.cells #[(.int .i64 0), (.int .i64 0), (.int .i64 0), (.int .i64 0), (.int .i64 0), (.int .i64 0), (.pointer none), (.int .i64 0), (.int .u64 0), (.int .i64 0), (.int .i64 0), (.pointer none), (.int .i64 0), (.int .i64 0), (.int .i64 0), (.int .u64 0), (.int .i64 0), (.bool false)] 88)
  rw [hz] at h2
  replace hh := hh.below b2
  have bel := seq_below b1 b2
  clear b1 b2 hz
  go_enter Tryz.func67, Tryz.ntmps67
  go_upto_region 1 with fail
  generalize (w.alloc (.cells #[(.int .i64 s), (.int .i64 a), (.int .i64 c), (.int .i64 d), (.int .i64 g), (.int .i64 k)] 30)).alloc (.cells #[(.int .i64 0), (.int .i64 0), (.int .i64 0), (.int .i64 0), (.int .i64 0), (.int .i64 0), (.pointer none), (.int .i64 0), (.int .u64 0), (.int .i64 0), (.int .i64 0), (.pointer none), (.int .i64 0), (.int .i64 0), (.int .i64 0), (.int .u64 0), (.int .i64 0), (.bool false)] 88) = w2 at *
  obtain ⟨l0, l1, l2, l3, l4, l5⟩ := hh.cells
  go_upto_region 2 with (go_at_call 37; refine (cB _).mono ?_; rintro e w3 ⟨rfl, b⟩; replace h2 := h2.below b; replace hh := hh.below b; replace bel := seq_below bel b)
  clear l0 l1 l2 l3 l4 l5
  obtain ⟨l0, l1, l2, l3, l4, l5⟩ := hh.cells
  have o1 : ((#[(.int .i64 s), (.int .i64 a), (.int .i64 c), (.int .i64 d), (.int .i64 g), (.int .i64 k), (.pointer (some ⟨B, 0, none⟩)), (.int .i64 F), (.int .u64 0), (.int .i64 0), (.int .i64 (-1)), (.pointer none), (.int .i64 0), (.int .i64 0), (.int .i64 0), (.int .u64 0), (.int .i64 0), (.bool false)] : Array Value).all (·.oneCell')) = true := by kernel_rfl
  go_wp2_with (refine wpList_store_row rfl 88 _ _ rfl (w.heap.size + 1) (#[(.int .i64 s), (.int .i64 a), (.int .i64 c), (.int .i64 d), (.int .i64 g), (.int .i64 k), (.pointer (some ⟨B, 0, none⟩)), (.int .i64 F), (.int .u64 0), (.int .i64 0), (.int .i64 (-1)), (.pointer none), (.int .i64 0), (.int .i64 0), (.int .i64 0), (.int .u64 0), (.int .i64 0), (.bool false)] : Array Value) rfl rfl 88 _ h2 (by kernel_rfl) rfl o1 ?_)
  have h3 : Blk (w3.setRow (w.heap.size + 1) (#[(.int .i64 s), (.int .i64 a), (.int .i64 c), (.int .i64 d), (.int .i64 g), (.int .i64 k), (.pointer (some ⟨B, 0, none⟩)), (.int .i64 F), (.int .u64 0), (.int .i64 0), (.int .i64 (-1)), (.pointer none), (.int .i64 0), (.int .i64 0), (.int .i64 0), (.int .u64 0), (.int .i64 0), (.bool false)] : Array Value)) (w.heap.size + 1) #[(.int .i64 s), (.int .i64 a), (.int .i64 c), (.int .i64 d), (.int .i64 g), (.int .i64 k), (.pointer (some ⟨B, 0, none⟩)), (.int .i64 F), (.int .u64 0), (.int .i64 0), (.int .i64 (-1)), (.pointer none), (.int .i64 0), (.int .i64 0), (.int .i64 0), (.int .u64 0), (.int .i64 0), (.bool false)] 88 := setRow_heap _ _ _ _ _ _ h2
  have bel9 := below_setRow bel (by omega : w.heap.size ≤ w.heap.size + 1) (#[(.int .i64 s), (.int .i64 a), (.int .i64 c), (.int .i64 d), (.int .i64 g), (.int .i64 k), (.pointer (some ⟨B, 0, none⟩)), (.int .i64 F), (.int .u64 0), (.int .i64 0), (.int .i64 (-1)), (.pointer none), (.int .i64 0), (.int .i64 0), (.int .i64 0), (.int .u64 0), (.int .i64 0), (.bool false)] : Array Value)
  clear h2 bel o1 b hh cB l0 l1 l2 l3 l4 l5
  generalize w3.setRow (w.heap.size + 1) (#[(.int .i64 s), (.int .i64 a), (.int .i64 c), (.int .i64 d), (.int .i64 g), (.int .i64 k), (.pointer (some ⟨B, 0, none⟩)), (.int .i64 F), (.int .u64 0), (.int .i64 0), (.int .i64 (-1)), (.pointer none), (.int .i64 0), (.int .i64 0), (.int .i64 0), (.int .u64 0), (.int .i64 0), (.bool false)] : Array Value) = w9 at *
  obtain ⟨D, hu⟩ := und56
  have rl : (loadVar 88 ⟨w.heap.size + 1, 0, none⟩).run Tryz.prog w9 = .ok (nwV s a c d g k F B) w9 := run_loadVar_row w9 (w.heap.size + 1) 88 88 _ (0, 0) (.struct D) h3 hu rfl (by kernel_rfl)
  refine bodyPost_ret (v := .tuple #[nwV s a c d g k F B, .bool true]) (by simp [results, Tryz.results67, asAddr, rl]) rfl ?_
  exact ⟨rfl, bel9⟩
set_option maxRecDepth 100000 in
set_option maxHeartbeats 2000000 in
theorem newestOf_no {s a c d g k ri iz : Int} {F : Int} (hF : F < 0) {B : Nat} (cB : ∀ w, Calls Tryz.prog 37 #[.agg #[(.int .i64 s), (.int .i64 a), (.int .i64 c), (.int .i64 d), (.int .i64 g), (.int .i64 k)], .int .i64 ri, .int .i64 iz] w fun e w' => e = .returned (.int .i64 F) ∧ Below w.heap.size w w') (w : World) :
    Calls Tryz.prog 67 #[.agg #[(.int .i64 s), (.int .i64 a), (.int .i64 c), (.int .i64 d), (.int .i64 g), (.int .i64 k)], .int .i64 ri, .int .i64 iz, .pointer (some ⟨B, 0, none⟩)] w fun e w' => e = .returned (.tuple #[nwV s a c d g k F B, .bool false]) ∧ Below w.heap.size w w' := by
  have b1 := alloc_below w (.cells #[(.int .i64 s), (.int .i64 a), (.int .i64 c), (.int .i64 d), (.int .i64 g), (.int .i64 k)] 30)
  have hh := cfg_new w s a c d g k
  have hz : (w.alloc (.cells #[(.int .i64 s), (.int .i64 a), (.int .i64 c), (.int .i64 d), (.int .i64 g), (.int .i64 k)] 30)).heap.size = w.heap.size + 1 := by simp
  have b2 := alloc_below (w.alloc (.cells #[(.int .i64 s), (.int .i64 a), (.int .i64 c), (.int .i64 d), (.int .i64 g), (.int .i64 k)] 30)) (.cells #[(.int .i64 0), (.int .i64 0), (.int .i64 0), (.int .i64 0), (.int .i64 0), (.int .i64 0), (.pointer none), (.int .i64 0), (.int .u64 0), (.int .i64 0), (.int .i64 0), (.pointer none), (.int .i64 0), (.int .i64 0), (.int .i64 0), (.int .u64 0), (.int .i64 0), (.bool false)] 88)
  have h2 : Blk _ _ _ 88 := new_obj (w.alloc (.cells #[(.int .i64 s), (.int .i64 a), (.int .i64 c), (.int .i64 d), (.int .i64 g), (.int .i64 k)] 30)) (.cells #[(.int .i64 0), (.int .i64 0), (.int .i64 0), (.int .i64 0), (.int .i64 0), (.int .i64 0), (.pointer none), (.int .i64 0), (.int .u64 0), (.int .i64 0), (.int .i64 0), (.pointer none), (.int .i64 0), (.int .i64 0), (.int .i64 0), (.int .u64 0), (.int .i64 0), (.bool false)] 88)
  rw [hz] at h2
  replace hh := hh.below b2
  have bel := seq_below b1 b2
  clear b1 b2 hz
  go_enter Tryz.func67, Tryz.ntmps67
  go_upto_region 1 with fail
  generalize (w.alloc (.cells #[(.int .i64 s), (.int .i64 a), (.int .i64 c), (.int .i64 d), (.int .i64 g), (.int .i64 k)] 30)).alloc (.cells #[(.int .i64 0), (.int .i64 0), (.int .i64 0), (.int .i64 0), (.int .i64 0), (.int .i64 0), (.pointer none), (.int .i64 0), (.int .u64 0), (.int .i64 0), (.int .i64 0), (.pointer none), (.int .i64 0), (.int .i64 0), (.int .i64 0), (.int .u64 0), (.int .i64 0), (.bool false)] 88) = w2 at *
  obtain ⟨l0, l1, l2, l3, l4, l5⟩ := hh.cells
  go_upto_region 2 with (go_at_call 37; refine (cB _).mono ?_; rintro e w3 ⟨rfl, b⟩; replace h2 := h2.below b; replace hh := hh.below b; replace bel := seq_below bel b)
  clear l0 l1 l2 l3 l4 l5
  obtain ⟨l0, l1, l2, l3, l4, l5⟩ := hh.cells
  have o1 : ((#[(.int .i64 s), (.int .i64 a), (.int .i64 c), (.int .i64 d), (.int .i64 g), (.int .i64 k), (.pointer (some ⟨B, 0, none⟩)), (.int .i64 F), (.int .u64 0), (.int .i64 0), (.int .i64 (-1)), (.pointer none), (.int .i64 0), (.int .i64 0), (.int .i64 0), (.int .u64 0), (.int .i64 0), (.bool false)] : Array Value).all (·.oneCell')) = true := by kernel_rfl
  go_wp2_with (refine wpList_store_row rfl 88 _ _ rfl (w.heap.size + 1) (#[(.int .i64 s), (.int .i64 a), (.int .i64 c), (.int .i64 d), (.int .i64 g), (.int .i64 k), (.pointer (some ⟨B, 0, none⟩)), (.int .i64 F), (.int .u64 0), (.int .i64 0), (.int .i64 (-1)), (.pointer none), (.int .i64 0), (.int .i64 0), (.int .i64 0), (.int .u64 0), (.int .i64 0), (.bool false)] : Array Value) rfl rfl 88 _ h2 (by kernel_rfl) rfl o1 ?_)
  have h3 : Blk (w3.setRow (w.heap.size + 1) (#[(.int .i64 s), (.int .i64 a), (.int .i64 c), (.int .i64 d), (.int .i64 g), (.int .i64 k), (.pointer (some ⟨B, 0, none⟩)), (.int .i64 F), (.int .u64 0), (.int .i64 0), (.int .i64 (-1)), (.pointer none), (.int .i64 0), (.int .i64 0), (.int .i64 0), (.int .u64 0), (.int .i64 0), (.bool false)] : Array Value)) (w.heap.size + 1) #[(.int .i64 s), (.int .i64 a), (.int .i64 c), (.int .i64 d), (.int .i64 g), (.int .i64 k), (.pointer (some ⟨B, 0, none⟩)), (.int .i64 F), (.int .u64 0), (.int .i64 0), (.int .i64 (-1)), (.pointer none), (.int .i64 0), (.int .i64 0), (.int .i64 0), (.int .u64 0), (.int .i64 0), (.bool false)] 88 := setRow_heap _ _ _ _ _ _ h2
  have bel9 := below_setRow bel (by omega : w.heap.size ≤ w.heap.size + 1) (#[(.int .i64 s), (.int .i64 a), (.int .i64 c), (.int .i64 d), (.int .i64 g), (.int .i64 k), (.pointer (some ⟨B, 0, none⟩)), (.int .i64 F), (.int .u64 0), (.int .i64 0), (.int .i64 (-1)), (.pointer none), (.int .i64 0), (.int .i64 0), (.int .i64 0), (.int .u64 0), (.int .i64 0), (.bool false)] : Array Value)
  clear h2 bel o1 b hh cB l0 l1 l2 l3 l4 l5
  generalize w3.setRow (w.heap.size + 1) (#[(.int .i64 s), (.int .i64 a), (.int .i64 c), (.int .i64 d), (.int .i64 g), (.int .i64 k), (.pointer (some ⟨B, 0, none⟩)), (.int .i64 F), (.int .u64 0), (.int .i64 0), (.int .i64 (-1)), (.pointer none), (.int .i64 0), (.int .i64 0), (.int .i64 0), (.int .u64 0), (.int .i64 0), (.bool false)] : Array Value) = w9 at *
  obtain ⟨D, hu⟩ := und56
  have rl : (loadVar 88 ⟨w.heap.size + 1, 0, none⟩).run Tryz.prog w9 = .ok (nwV s a c d g k F B) w9 := run_loadVar_row w9 (w.heap.size + 1) 88 88 _ (0, 0) (.struct D) h3 hu rfl (by kernel_rfl)
  refine bodyPost_ret (v := .tuple #[nwV s a c d g k F B, .bool false]) (by simp [results, Tryz.results67, asAddr, rl]) rfl ?_
  exact ⟨rfl, bel9⟩
end Go.Proofs.YtnegdabcjnhpdaaGreatDoor
/- Contracts of package field's machines as they are made, with a book. -/
namespace Go.Proofs.YtnegdabcjnhpdaaGreatDoor
open Go.RowKit
open Mm (IsMem MS touched Only)
open Hh (WT fen fen_any)

/-- A machine that is made off what newestOf answers. -/
def nwC (s a c d g k F : Int) (B : Nat) : List Value := [(.int .i64 s), (.int .i64 a), (.int .i64 c), (.int .i64 d), (.int .i64 g), (.int .i64 k), (.pointer (some ⟨B, 0, none⟩)), (.int .i64 F), (.int .u64 0), (.int .i64 0), (.int .i64 (-1)), (.pointer none), (.int .i64 0), (.int .i64 0), (.int .i64 0), (.int .u64 0), (.int .i64 0), (.bool false)]

set_option maxRecDepth 100000 in
set_option maxHeartbeats 2000000 in
theorem newRead_yes {s a c d g k ri iz : Int} {F : Int} {B : Nat}  (cN : ∀ w, Calls Tryz.prog 67 #[.agg #[.int .i64 s, .int .i64 a, .int .i64 c, .int .i64 d, .int .i64 g, .int .i64 k], .int .i64 ri, .int .i64 iz, .pointer (some ⟨B, 0, none⟩)] w fun e w' => e = .returned (.tuple #[nwV s a c d g k F B, .bool true]) ∧ Below w.heap.size w w')  (w : World) :
    Calls Tryz.prog 47 #[.agg #[.int .i64 s, .int .i64 a, .int .i64 c, .int .i64 d, .int .i64 g, .int .i64 k], .int .i64 ri, .int .i64 iz, .pointer (some ⟨B, 0, none⟩)] w fun e w' => ∃ P, e = .returned (.pointer (some ⟨P, 0, none⟩)) ∧ Blk w' P #[(.int .i64 (-1)), (.int .i64 (-1)), (.int .i64 0), (.int .i64 s), (.int .i64 a), (.int .i64 c), (.int .i64 d), (.int .i64 g), (.int .i64 k), (.pointer (some ⟨B, 0, none⟩)), (.int .i64 F), (.int .u64 0), (.int .i64 0), (.int .i64 (-1)), (.pointer none), (.int .i64 0), (.int .i64 0), (.int .i64 0), (.int .u64 0), (.int .i64 0), (.bool false), (.int .i64 0)] 90 ∧ w.heap.size ≤ P ∧ Below w.heap.size w w' := by
  obtain ⟨D, hu⟩ := und56
  have HU : Hid (Tryz.prog.underlying 88 = some (.struct D)) := hu
  have o1 : ((#[(.int .i64 s), (.int .i64 a), (.int .i64 c), (.int .i64 d), (.int .i64 g), (.int .i64 k), (.pointer (some ⟨B, 0, none⟩)), (.int .i64 F), (.int .u64 0), (.int .i64 0), (.int .i64 (-1)), (.pointer none), (.int .i64 0), (.int .i64 0), (.int .i64 0), (.int .u64 0), (.int .i64 0), (.bool false)] : Array Value).all (·.oneCell')) = true := by kernel_rfl
  have O1 : Hid (((#[(.int .i64 s), (.int .i64 a), (.int .i64 c), (.int .i64 d), (.int .i64 g), (.int .i64 k), (.pointer (some ⟨B, 0, none⟩)), (.int .i64 F), (.int .u64 0), (.int .i64 0), (.int .i64 (-1)), (.pointer none), (.int .i64 0), (.int .i64 0), (.int .i64 0), (.int .u64 0), (.int .i64 0), (.bool false)] : Array Value).all (·.oneCell')) = true) := o1
  clear o1
  clear hu
  have b1 := alloc_below w (.cells #[.int .i64 s, .int .i64 a, .int .i64 c, .int .i64 d, .int .i64 g, .int .i64 k] 30)
  have hh := cfg_new w s a c d g k
  unfold nwV at cN
  go_enter Tryz.func47, Tryz.ntmps47
  go_upto_region 1 with fail
  generalize (w.alloc (.cells #[.int .i64 s, .int .i64 a, .int .i64 c, .int .i64 d, .int .i64 g, .int .i64 k] 30)) = w2 at *
  obtain ⟨l0, l1, l2, l3, l4, l5⟩ := hh.cells
  go_wp2_with (first
    | (go_at_call 67; refine (cN _).mono ?_; rintro e w3 ⟨rfl, b⟩; replace hh := hh.below b; replace b1 := seq_below b1 b; have h56 : Blk _ _ _ 88 := new_obj w3 (.cells #[(.int .i64 s), (.int .i64 a), (.int .i64 c), (.int .i64 d), (.int .i64 g), (.int .i64 k), (.pointer (some ⟨B, 0, none⟩)), (.int .i64 F), (.int .u64 0), (.int .i64 0), (.int .i64 (-1)), (.pointer none), (.int .i64 0), (.int .i64 0), (.int .i64 0), (.int .u64 0), (.int .i64 0), (.bool false)] 88); clear l0 l1 l2 l3 l4 l5)
    
    | (refine wpList_load_row rfl 88 _ rfl w3.heap.size rfl 88 #[(.int .i64 s), (.int .i64 a), (.int .i64 c), (.int .i64 d), (.int .i64 g), (.int .i64 k), (.pointer (some ⟨B, 0, none⟩)), (.int .i64 F), (.int .u64 0), (.int .i64 0), (.int .i64 (-1)), (.pointer none), (.int .i64 0), (.int .i64 0), (.int .i64 0), (.int .u64 0), (.int .i64 0), (.bool false)] (0, 0) (.struct D) h56 HU.out rfl (by kernel_rfl) ?_))
  go_ret
  refine ⟨_, rfl, heap_alloc2_new _ _ _, ?_, ?_⟩
  · have := b1.size; simp; omega
  · exact (b1.alloc b1.size _).alloc (by have := b1.size; simp; omega) _

set_option maxRecDepth 100000 in
set_option maxHeartbeats 2000000 in
theorem newSee_yes {s a c d g k ri iz : Int} {F : Int} {B : Nat} {v : Nat} (cN : ∀ w, Calls Tryz.prog 67 #[.agg #[.int .i64 s, .int .i64 a, .int .i64 c, .int .i64 d, .int .i64 g, .int .i64 k], .int .i64 ri, .int .i64 iz, .pointer (some ⟨B, 0, none⟩)] w fun e w' => e = .returned (.tuple #[nwV s a c d g k F B, .bool true]) ∧ Below w.heap.size w w')  (w : World) :
    Calls Tryz.prog 54 #[.agg #[.int .i64 s, .int .i64 a, .int .i64 c, .int .i64 d, .int .i64 g, .int .i64 k], .int .i64 ri, .int .i64 iz, .int .u64 (v : Nat), .pointer (some ⟨B, 0, none⟩)] w fun e w' => ∃ P, e = .returned (.pointer (some ⟨P, 0, none⟩)) ∧ Blk w' P #[(.int .i64 (-1)), (.int .i64 s), (.int .i64 a), (.int .i64 c), (.int .i64 d), (.int .i64 g), (.int .i64 k), (.pointer (some ⟨B, 0, none⟩)), (.int .i64 F), (.int .u64 0), (.int .i64 0), (.int .i64 (-1)), (.pointer none), (.int .i64 0), (.int .i64 0), (.int .i64 0), (.int .u64 0), (.int .i64 0), (.bool false), (.int .u64 (v : Nat)), (.int .i64 0)] 115 ∧ w.heap.size ≤ P ∧ Below w.heap.size w w' := by
  obtain ⟨D, hu⟩ := und56
  have HU : Hid (Tryz.prog.underlying 88 = some (.struct D)) := hu
  have o1 : ((#[(.int .i64 s), (.int .i64 a), (.int .i64 c), (.int .i64 d), (.int .i64 g), (.int .i64 k), (.pointer (some ⟨B, 0, none⟩)), (.int .i64 F), (.int .u64 0), (.int .i64 0), (.int .i64 (-1)), (.pointer none), (.int .i64 0), (.int .i64 0), (.int .i64 0), (.int .u64 0), (.int .i64 0), (.bool false)] : Array Value).all (·.oneCell')) = true := by kernel_rfl
  have O1 : Hid (((#[(.int .i64 s), (.int .i64 a), (.int .i64 c), (.int .i64 d), (.int .i64 g), (.int .i64 k), (.pointer (some ⟨B, 0, none⟩)), (.int .i64 F), (.int .u64 0), (.int .i64 0), (.int .i64 (-1)), (.pointer none), (.int .i64 0), (.int .i64 0), (.int .i64 0), (.int .u64 0), (.int .i64 0), (.bool false)] : Array Value).all (·.oneCell')) = true) := o1
  clear o1
  clear hu
  have b1 := alloc_below w (.cells #[.int .i64 s, .int .i64 a, .int .i64 c, .int .i64 d, .int .i64 g, .int .i64 k] 30)
  have hh := cfg_new w s a c d g k
  unfold nwV at cN
  go_enter Tryz.func54, Tryz.ntmps54
  go_upto_region 1 with fail
  generalize (w.alloc (.cells #[.int .i64 s, .int .i64 a, .int .i64 c, .int .i64 d, .int .i64 g, .int .i64 k] 30)) = w2 at *
  obtain ⟨l0, l1, l2, l3, l4, l5⟩ := hh.cells
  go_wp2_with (first
    | (go_at_call 67; refine (cN _).mono ?_; rintro e w3 ⟨rfl, b⟩; replace hh := hh.below b; replace b1 := seq_below b1 b; have h56 : Blk _ _ _ 88 := new_obj w3 (.cells #[(.int .i64 s), (.int .i64 a), (.int .i64 c), (.int .i64 d), (.int .i64 g), (.int .i64 k), (.pointer (some ⟨B, 0, none⟩)), (.int .i64 F), (.int .u64 0), (.int .i64 0), (.int .i64 (-1)), (.pointer none), (.int .i64 0), (.int .i64 0), (.int .i64 0), (.int .u64 0), (.int .i64 0), (.bool false)] 88); clear l0 l1 l2 l3 l4 l5)
    
    | (refine wpList_load_row rfl 88 _ rfl w3.heap.size rfl 88 #[(.int .i64 s), (.int .i64 a), (.int .i64 c), (.int .i64 d), (.int .i64 g), (.int .i64 k), (.pointer (some ⟨B, 0, none⟩)), (.int .i64 F), (.int .u64 0), (.int .i64 0), (.int .i64 (-1)), (.pointer none), (.int .i64 0), (.int .i64 0), (.int .i64 0), (.int .u64 0), (.int .i64 0), (.bool false)] (0, 0) (.struct D) h56 HU.out rfl (by kernel_rfl) ?_))
  go_ret
  refine ⟨_, rfl, heap_alloc2_new _ _ _, ?_, ?_⟩
  · have := b1.size; simp; omega
  · exact (b1.alloc b1.size _).alloc (by have := b1.size; simp; omega) _
end Go.Proofs.YtnegdabcjnhpdaaGreatDoor
