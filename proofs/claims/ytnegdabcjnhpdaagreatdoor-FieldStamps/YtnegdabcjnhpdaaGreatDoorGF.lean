/- Contracts of package field's Turn and Stamp as they are made, with a book. -/
import Derived.Test.YtnegdabcjnhpdaaGreatDoorGD
import Derived.Test.YtnegdabcjnhpdaaGreatDoorGE
import Derived.Test.YtnegdabcjnhpdaaGreatDoorGC
import Derived.Test.YtnegdabcjnhpdaaGreatDoorGB
namespace Go.Proofs.YtnegdabcjnhpdaaGreatDoor
open Go.RowKit
open Mm (IsMem MS touched Only)
open Hh (WT)

set_option maxHeartbeats 1000000 in
theorem newTurn_yes {s a c d g k : Int} {B : Nat} (cF : ∀ w, Calls Tryz.prog 21 #[.agg #[.int .i64 s, .int .i64 a, .int .i64 c, .int .i64 d, .int .i64 g, .int .i64 k]] w fun e w' => e = .returned (.bool true) ∧ Below w.heap.size w w') (w : World) :
    Calls Tryz.prog 7 #[.agg #[.int .i64 s, .int .i64 a, .int .i64 c, .int .i64 d, .int .i64 g, .int .i64 k], .pointer (some ⟨B, 0, none⟩)] w fun e w' => ∃ P, e = .returned (.pointer (some ⟨P, 0, none⟩)) ∧ Blk w' P #[.int .u64 0, .int .i64 0, .pointer (some ⟨B, 0, none⟩), .int .i64 0, .int .u64 0] 74 ∧ w.heap.size ≤ P ∧ Below w.heap.size w w' := by
  have b1 := alloc_below w (.cells #[.int .i64 s, .int .i64 a, .int .i64 c, .int .i64 d, .int .i64 g, .int .i64 k] 30)
  go_enter Tryz.func7, Tryz.ntmps7
  go_wp2_with (go_at_call 21; refine (cF _).mono ?_; rintro e w1 ⟨rfl, b⟩; replace b1 := seq_below b1 b)
  go_ret
  exact ⟨_, rfl, new_obj _ _, b1.size, b1.alloc b1.size _⟩
set_option maxHeartbeats 1000000 in
theorem newTurn_no {s a c d g k : Int} {p : Value} (cF : ∀ w, Calls Tryz.prog 21 #[.agg #[.int .i64 s, .int .i64 a, .int .i64 c, .int .i64 d, .int .i64 g, .int .i64 k]] w fun e w' => e = .returned (.bool false) ∧ Below w.heap.size w w') (w : World) :
    Calls Tryz.prog 7 #[.agg #[.int .i64 s, .int .i64 a, .int .i64 c, .int .i64 d, .int .i64 g, .int .i64 k], p] w fun e w' => e = .returned (.pointer none) ∧ Below w.heap.size w w' := by
  have b1 := alloc_below w (.cells #[.int .i64 s, .int .i64 a, .int .i64 c, .int .i64 d, .int .i64 g, .int .i64 k] 30)
  go_enter Tryz.func7, Tryz.ntmps7
  go_wp2_with (go_at_call 21; refine (cF _).mono ?_; rintro e w1 ⟨rfl, b⟩; replace b1 := seq_below b1 b)
  go_ret
  exact ⟨rfl, b1⟩
set_option maxHeartbeats 1000000 in
theorem newTurn_nil {s a c d g k : Int} (cF : ∀ w, Calls Tryz.prog 21 #[.agg #[.int .i64 s, .int .i64 a, .int .i64 c, .int .i64 d, .int .i64 g, .int .i64 k]] w fun e w' => e = .returned (.bool true) ∧ Below w.heap.size w w') (w : World) :
    Calls Tryz.prog 7 #[.agg #[.int .i64 s, .int .i64 a, .int .i64 c, .int .i64 d, .int .i64 g, .int .i64 k], .pointer none] w fun e w' => e = .returned (.pointer none) ∧ Below w.heap.size w w' := by
  have b1 := alloc_below w (.cells #[.int .i64 s, .int .i64 a, .int .i64 c, .int .i64 d, .int .i64 g, .int .i64 k] 30)
  go_enter Tryz.func7, Tryz.ntmps7
  go_wp2_with (go_at_call 21; refine (cF _).mono ?_; rintro e w1 ⟨rfl, b⟩; replace b1 := seq_below b1 b)
  go_ret
  exact ⟨rfl, b1⟩
theorem stampV {s a c d g k ri z : Int} (pb : Option Addr) (hz : 0 ≤ z) (cS : ∀ w, Calls Tryz.prog 20 #[.agg #[.int .i64 s, .int .i64 a, .int .i64 c, .int .i64 d, .int .i64 g, .int .i64 k], .int .i64 ri, .pointer pb] w fun e w' => e = .returned (.agg #[.pointer pb, .int .i64 ri, .int .i64 z, .int .i64 0, .int .u64 0, .int .i64 0]) ∧ Below w.heap.size w w') (B : Nat) (hb : pb = some ⟨B, 0, none⟩) (w : World) :
    Calls Tryz.prog 6 #[.agg #[.int .i64 s, .int .i64 a, .int .i64 c, .int .i64 d, .int .i64 g, .int .i64 k], .int .i64 ri, .pointer pb] w fun e w' => ∃ P, e = .returned (.pointer (some ⟨P, 0, none⟩)) ∧ Blk w' P #[.pointer (some ⟨B, 0, none⟩), .int .i64 ri, .int .i64 z, .int .i64 0, .int .u64 0, .int .i64 0] 70 ∧ w.heap.size ≤ P ∧ Below w.heap.size w w' := by
  subst hb
  have b1 := alloc_below w (.cells #[.int .i64 s, .int .i64 a, .int .i64 c, .int .i64 d, .int .i64 g, .int .i64 k] 30)
  have hh := cfg_new w s a c d g k
  obtain ⟨l0, l1, l2, l3, l4, l5⟩ := hh.cells
  have hz' : ¬ z < 0 := by omega
  go_enter Tryz.func6, Tryz.ntmps6
  go_wp2_with (go_at_call 20; refine (cS _).mono ?_; rintro e w1 ⟨rfl, b⟩; replace b1 := seq_below b1 b)
  go_ret
  exact ⟨_, rfl, new_obj _ _, b1.size, b1.alloc b1.size _⟩
end Go.Proofs.YtnegdabcjnhpdaaGreatDoor
/- Contracts of package field's machines Lay as it is made, with a book. -/
namespace Go.Proofs.YtnegdabcjnhpdaaGreatDoor
open Go.RowKit
open Mm (IsMem MS touched Only)
open Hh (WT fen fen_any)


set_option maxRecDepth 100000 in
set_option maxHeartbeats 2000000 in
theorem newLay_yes {s a c d g k ri iz : Int} {F : Int} {B : Nat} {fr ex z : Int} {ep : Nat} (cN : ∀ w, Calls Tryz.prog 67 #[.agg #[.int .i64 s, .int .i64 a, .int .i64 c, .int .i64 d, .int .i64 g, .int .i64 k], .int .i64 ri, .int .i64 iz, .pointer (some ⟨B, 0, none⟩)] w fun e w' => e = .returned (.tuple #[nwV s a c d g k F B, .bool true]) ∧ Below w.heap.size w w') (hz : 0 ≤ z) (cB : ∀ w, Calls Tryz.prog 37 #[.agg #[.int .i64 s, .int .i64 a, .int .i64 c, .int .i64 d, .int .i64 g, .int .i64 k], .int .i64 fr, .int .i64 2] w fun e w' => e = .returned (.int .i64 z) ∧ Below w.heap.size w w') (w : World) :
    Calls Tryz.prog 49 #[.agg #[.int .i64 s, .int .i64 a, .int .i64 c, .int .i64 d, .int .i64 g, .int .i64 k], .int .i64 ri, .int .i64 iz, .int .i64 fr, .int .i64 ex, .int .u64 (ep : Nat), .pointer (some ⟨B, 0, none⟩)] w fun e w' => ∃ P, e = .returned (.pointer (some ⟨P, 0, none⟩)) ∧ Blk w' P #[(.bool false), (.int .i64 0), (.int .i64 s), (.int .i64 a), (.int .i64 c), (.int .i64 d), (.int .i64 g), (.int .i64 k), (.pointer (some ⟨B, 0, none⟩)), (.int .i64 F), (.int .u64 0), (.int .i64 0), (.int .i64 (-1)), (.pointer none), (.int .i64 0), (.int .i64 0), (.int .i64 0), (.int .u64 0), (.int .i64 0), (.bool false), (.int .i64 fr), (.int .i64 ex), (.int .u64 (ep : Nat)), (.pointer none), (.int .i64 0)] 94 ∧ w.heap.size ≤ P ∧ Below w.heap.size w w' := by
  obtain ⟨D, hu⟩ := und56
  have HU : Hid (Tryz.prog.underlying 88 = some (.struct D)) := hu
  have o1 : ((#[(.int .i64 s), (.int .i64 a), (.int .i64 c), (.int .i64 d), (.int .i64 g), (.int .i64 k), (.pointer (some ⟨B, 0, none⟩)), (.int .i64 F), (.int .u64 0), (.int .i64 0), (.int .i64 (-1)), (.pointer none), (.int .i64 0), (.int .i64 0), (.int .i64 0), (.int .u64 0), (.int .i64 0), (.bool false)] : Array Value).all (·.oneCell')) = true := by kernel_rfl
  have O1 : Hid (((#[(.int .i64 s), (.int .i64 a), (.int .i64 c), (.int .i64 d), (.int .i64 g), (.int .i64 k), (.pointer (some ⟨B, 0, none⟩)), (.int .i64 F), (.int .u64 0), (.int .i64 0), (.int .i64 (-1)), (.pointer none), (.int .i64 0), (.int .i64 0), (.int .i64 0), (.int .u64 0), (.int .i64 0), (.bool false)] : Array Value).all (·.oneCell')) = true) := o1
  clear o1
  clear hu
  have hz1 : ¬ z < 0 := by omega
  have b1 := alloc_below w (.cells #[.int .i64 s, .int .i64 a, .int .i64 c, .int .i64 d, .int .i64 g, .int .i64 k] 30)
  have hh := cfg_new w s a c d g k
  unfold nwV at cN
  go_enter Tryz.func49, Tryz.ntmps49
  go_upto_region 1 with fail
  generalize (w.alloc (.cells #[.int .i64 s, .int .i64 a, .int .i64 c, .int .i64 d, .int .i64 g, .int .i64 k] 30)) = w2 at *
  obtain ⟨l0, l1, l2, l3, l4, l5⟩ := hh.cells
  go_wp2_with (first
    | (go_at_call 67; refine (cN _).mono ?_; rintro e w3 ⟨rfl, b⟩; replace hh := hh.below b; replace b1 := seq_below b1 b; have h56 : Blk _ _ _ 88 := new_obj w3 (.cells #[(.int .i64 s), (.int .i64 a), (.int .i64 c), (.int .i64 d), (.int .i64 g), (.int .i64 k), (.pointer (some ⟨B, 0, none⟩)), (.int .i64 F), (.int .u64 0), (.int .i64 0), (.int .i64 (-1)), (.pointer none), (.int .i64 0), (.int .i64 0), (.int .i64 0), (.int .u64 0), (.int .i64 0), (.bool false)] 88); clear l0 l1 l2 l3 l4 l5; obtain ⟨l0, l1, l2, l3, l4, l5⟩ := (hh.below (alloc_below w3 (.cells #[(.int .i64 s), (.int .i64 a), (.int .i64 c), (.int .i64 d), (.int .i64 g), (.int .i64 k), (.pointer (some ⟨B, 0, none⟩)), (.int .i64 F), (.int .u64 0), (.int .i64 0), (.int .i64 (-1)), (.pointer none), (.int .i64 0), (.int .i64 0), (.int .i64 0), (.int .u64 0), (.int .i64 0), (.bool false)] 88))).cells)
        | (go_at_call 37; refine (cB _).mono ?_; rintro e w5 ⟨rfl, b5⟩; replace h56 := h56.below b5; have b6 := seq_below (b1.alloc b1.size (.cells #[(.int .i64 s), (.int .i64 a), (.int .i64 c), (.int .i64 d), (.int .i64 g), (.int .i64 k), (.pointer (some ⟨B, 0, none⟩)), (.int .i64 F), (.int .u64 0), (.int .i64 0), (.int .i64 (-1)), (.pointer none), (.int .i64 0), (.int .i64 0), (.int .i64 0), (.int .u64 0), (.int .i64 0), (.bool false)] 88)) b5)
    | (refine wpList_load_row rfl 88 _ rfl w3.heap.size rfl 88 #[(.int .i64 s), (.int .i64 a), (.int .i64 c), (.int .i64 d), (.int .i64 g), (.int .i64 k), (.pointer (some ⟨B, 0, none⟩)), (.int .i64 F), (.int .u64 0), (.int .i64 0), (.int .i64 (-1)), (.pointer none), (.int .i64 0), (.int .i64 0), (.int .i64 0), (.int .u64 0), (.int .i64 0), (.bool false)] (0, 0) (.struct D) h56 HU.out rfl (by kernel_rfl) ?_))
  go_ret
  exact ⟨_, rfl, new_obj _ _, b6.size, b6.alloc b6.size _⟩
end Go.Proofs.YtnegdabcjnhpdaaGreatDoor
/- Machines of the laws' config as they are made, with their first states. -/
namespace Go.Proofs.YtnegdabcjnhpdaaGreatDoor
open Go.RowKit

theorem KC_body {s i : Nat} (hs : s < 40) (hi : i < 3) {j : Int} (hj : (s : Int) = j) {u : Int} (hu : (i : Int) = u) (w : World) : Calls Tryz.prog 37 #[.agg #[.int .i64 40, .int .i64 3, .int .i64 1, .int .i64 1, .int .i64 9, .int .i64 0], .int .i64 j, .int .i64 u] w fun e w' => e = .returned (.int .i64 (KC.bd s i : Nat)) ∧ Below w.heap.size w w' :=
  body_at KC_ok (K := KC) (s := s) (i := i) hs hi hj hu w
theorem mkRead {f : Nat} (hf : f < 3) {fz : Int} (hz : (f : Int) = fz) (B : Nat) (w : World) : Calls Tryz.prog 47 #[.agg #[.int .i64 40, .int .i64 3, .int .i64 1, .int .i64 1, .int .i64 9, .int .i64 0], .int .i64 0, .int .i64 fz, .pointer (some ⟨B, 0, none⟩)] w fun e w' => ∃ P c, e = .returned (.pointer (some ⟨P, 0, none⟩)) ∧ w'.heap[P]? = some (.cells c 90 (0, 0)) ∧ RdAt c B KC ⟨-1, -1, 0, nw0 (KC.bd 0 f), 0⟩ ∧ w.heap.size ≤ P ∧ Below w.heap.size w w' :=
  (newRead_yes (newestOf_yes (B := B) (Int.natCast_nonneg (KC.bd 0 f)) (fun w => KC_body (s := 0) (by omega) hf rfl hz w)) w).mono fun _ _ ⟨P, h1, h2, h3, h4⟩ => ⟨P, _, h1, h2, rd0_at KC B (KC.bd 0 f), h3, h4⟩
theorem mkSee {f v : Nat} (hf : f < 3) {fz : Int} (hz : (f : Int) = fz) (B : Nat) (w : World) : Calls Tryz.prog 54 #[.agg #[.int .i64 40, .int .i64 3, .int .i64 1, .int .i64 1, .int .i64 9, .int .i64 0], .int .i64 0, .int .i64 fz, .int .u64 (v : Nat), .pointer (some ⟨B, 0, none⟩)] w fun e w' => ∃ P c, e = .returned (.pointer (some ⟨P, 0, none⟩)) ∧ w'.heap[P]? = some (.cells c 115 (0, 0)) ∧ SeAt c B KC ⟨-1, nw0 (KC.bd 0 f), v, 0⟩ ∧ w.heap.size ≤ P ∧ Below w.heap.size w w' :=
  (newSee_yes (newestOf_yes (B := B) (Int.natCast_nonneg (KC.bd 0 f)) (fun w => KC_body (s := 0) (by omega) hf rfl hz w)) w).mono fun _ _ ⟨P, h1, h2, h3, h4⟩ => ⟨P, _, h1, h2, se0_at KC B (KC.bd 0 f) v, h3, h4⟩
theorem mkLay {f r ep : Nat} (hf : f < 3) (hr : r < 40) {fz rz ex : Int} (hz : (f : Int) = fz) (hrz : (r : Int) = rz) (B : Nat) (w : World) : Calls Tryz.prog 49 #[.agg #[.int .i64 40, .int .i64 3, .int .i64 1, .int .i64 1, .int .i64 9, .int .i64 0], .int .i64 0, .int .i64 fz, .int .i64 rz, .int .i64 ex, .int .u64 (ep : Nat), .pointer (some ⟨B, 0, none⟩)] w fun e w' => ∃ P c, e = .returned (.pointer (some ⟨P, 0, none⟩)) ∧ w'.heap[P]? = some (.cells c 94 (0, 0)) ∧ LaAt c B KC ⟨false, 0, nw0 (KC.bd 0 f), r, ex, ep, none, 0⟩ ∧ w.heap.size ≤ P ∧ Below w.heap.size w w' := by
  subst hrz
  exact (newLay_yes (newestOf_yes (B := B) (Int.natCast_nonneg (KC.bd 0 f)) (fun w => KC_body (s := 0) (by omega) hf rfl hz w)) (Int.natCast_nonneg (KC.bd r 2)) (fun w => KC_body hr (i := 2) (by omega) rfl rfl w) w).mono fun _ _ ⟨P, h1, h2, h3, h4⟩ => ⟨P, _, h1, h2, la0_at KC B (KC.bd 0 f) r ep ex, h3, h4⟩
theorem mkTurn (B : Nat) (w : World) : Calls Tryz.prog 7 #[.agg #[.int .i64 40, .int .i64 3, .int .i64 1, .int .i64 1, .int .i64 9, .int .i64 0], .pointer (some ⟨B, 0, none⟩)] w fun e w' => ∃ P c, e = .returned (.pointer (some ⟨P, 0, none⟩)) ∧ w'.heap[P]? = some (.cells c 74 (0, 0)) ∧ TuAt c B ⟨0, 0, 0, 0⟩ ∧ w.heap.size ≤ P ∧ Below w.heap.size w w' :=
  (newTurn_yes (B := B) (fun w => right_any 40 3 1 1 9 0 w) w).mono fun _ _ ⟨P, h1, h2, h3, h4⟩ => ⟨P, _, h1, h2, tu0_at B, h3, h4⟩
end Go.Proofs.YtnegdabcjnhpdaaGreatDoor
