/- The law of no machine: its walk, case by case, over the callees' contracts. -/
import Derived.Test.YtnegdabcjnhpdaaDoorGM
namespace Go.Proofs.YtnegdabcjnhpdaaDoor
open Go.RowKit
open Mm (IsMem MS touched Only)
open Hh (WT)
set_option maxRecDepth 100000 in
set_option maxHeartbeats 4000000 in
theorem none_00 {s a c d g k node i rc : Int} {w : World} (hw : WT w) (_hrc : (Lit.int .i64 rc).wf = true) 
    (cR : ∀ w, Calls Tryd.prog 23 #[.agg #[.int .i64 s, .int .i64 a, .int .i64 c, .int .i64 d, .int .i64 g, .int .i64 k]] w fun e w' => e = .returned (.bool false) ∧ Below w.heap.size w w')
    (_cM : ∀ w, Calls Tryd.prog 24 #[.agg #[.int .i64 s, .int .i64 a, .int .i64 c, .int .i64 d, .int .i64 g, .int .i64 k]] w fun e w' => e = .returned (.int .i64 (bsI a)) ∧ Below w.heap.size w w')
    (c11 : ∀ w, Calls Tryd.prog 11 #[.agg #[.int .i64 s, .int .i64 a, .int .i64 c, .int .i64 d, .int .i64 g, .int .i64 k], .int .i64 node, .int .i64 i, .pointer none] w fun e w' => e = .returned (.pointer none) ∧ Below w.heap.size w w')
    (c20 : ∀ w, Calls Tryd.prog 20 #[.agg #[.int .i64 s, .int .i64 a, .int .i64 c, .int .i64 d, .int .i64 g, .int .i64 k], .int .i64 node, .int .i64 i, .int .u64 3, .pointer none] w fun e w' => e = .returned (.pointer none) ∧ Below w.heap.size w w')
    (c16 : ∀ w, Calls Tryd.prog 16 #[.agg #[.int .i64 s, .int .i64 a, .int .i64 c, .int .i64 d, .int .i64 g, .int .i64 k], .int .i64 node, .int .i64 i, .int .i64 rc, .int .i64 (-2), .int .u64 0, .pointer none] w fun e w' => e = .returned (.pointer none) ∧ Below w.heap.size w w')
    (c26 : ∀ w, Calls Tryd.prog 26 #[.agg #[.int .i64 s, .int .i64 a, .int .i64 c, .int .i64 d, .int .i64 g, .int .i64 k], .int .i64 rc, .pointer none] w fun e w' => e = .returned (.pointer none) ∧ Below w.heap.size w w')
    (c18 : ∀ w, Calls Tryd.prog 18 #[.agg #[.int .i64 s, .int .i64 a, .int .i64 c, .int .i64 d, .int .i64 g, .int .i64 k], .pointer none] w fun e w' => e = .returned (.pointer none) ∧ Below w.heap.size w w') :
    Calls Tryd.prog 6 #[.agg #[.int .i64 s, .int .i64 a, .int .i64 c, .int .i64 d, .int .i64 g, .int .i64 k], .int .i64 node, .int .i64 i, .int .i64 rc, .bool false] w fun e w' => e = .returned (.bool true) ∧ Below w.heap.size w w' := by
  have n12 := rd_nil (.pointer none)
  have n21 := se_nil (.pointer none)
  have n17 := la_nil (.pointer none)
  have n19 := tu_nil (.pointer none)
  have n25 := sm_nil (.pointer none)
  have bel := alloc_below w (.cells #[.int .i64 s, .int .i64 a, .int .i64 c, .int .i64 d, .int .i64 g, .int .i64 k] 42)
  have hh := cfg_new w s a c d g k
  have c27 := born_nil rc
  have c28 := turned_nil 3
  go_enter Tryd.func6, Tryd.ntmps6
  go_upto_region 1 with fail
  generalize w.alloc (.cells #[.int .i64 s, .int .i64 a, .int .i64 c, .int .i64 d, .int .i64 g, .int .i64 k] 42) = w0 at *
  generalize hC : w.heap.size = C at hh ⊢
  replace hC : Hid (w.heap.size = C) := hC
  obtain ⟨l0, l1, l2, l3, l4, l5⟩ := hh.cells
  go_wp2_with (first
    | (go_at_call 23; with_reducible refine (cR _).mono ?_; rintro e w1 ⟨rfl, b⟩; replace bel := seq_below bel b; replace hh := hh.below b; clear b l0 l1 l2 l3 l4 l5; obtain ⟨l0, l1, l2, l3, l4, l5⟩ := hh.cells)
    | (go_at_call 24; with_reducible refine (_cM _).mono ?_; rintro e w1 ⟨rfl, b⟩; replace bel := seq_below bel b; replace hh := hh.below b; clear b l0 l1 l2 l3 l4 l5; obtain ⟨l0, l1, l2, l3, l4, l5⟩ := hh.cells)
    | (go_at_call 12; with_reducible refine (n12 _).mono ?_; rintro e w1 ⟨rfl, rfl⟩)
    | (go_at_call 21; with_reducible refine (n21 _).mono ?_; rintro e w1 ⟨rfl, rfl⟩)
    | (go_at_call 17; with_reducible refine (n17 _).mono ?_; rintro e w1 ⟨rfl, rfl⟩)
    | (go_at_call 19; with_reducible refine (n19 _).mono ?_; rintro e w1 ⟨rfl, rfl⟩)
    | (go_at_call 25; with_reducible refine (n25 _).mono ?_; rintro e w1 ⟨rfl, rfl⟩)
    | (go_at_call 11; with_reducible refine (c11 _).mono ?_; rintro e w1 ⟨rfl, b⟩; replace bel := seq_below bel b; replace hh := hh.below b; clear b l0 l1 l2 l3 l4 l5; obtain ⟨l0, l1, l2, l3, l4, l5⟩ := hh.cells)
    | (go_at_call 20; with_reducible refine (c20 _).mono ?_; rintro e w1 ⟨rfl, b⟩; replace bel := seq_below bel b; replace hh := hh.below b; clear b l0 l1 l2 l3 l4 l5; obtain ⟨l0, l1, l2, l3, l4, l5⟩ := hh.cells)
    | (go_at_call 16; with_reducible refine (c16 _).mono ?_; rintro e w1 ⟨rfl, b⟩; replace bel := seq_below bel b; replace hh := hh.below b; clear b l0 l1 l2 l3 l4 l5; obtain ⟨l0, l1, l2, l3, l4, l5⟩ := hh.cells)
    | (go_at_call 26; with_reducible refine (c26 _).mono ?_; rintro e w1 ⟨rfl, b⟩; replace bel := seq_below bel b; replace hh := hh.below b; clear b l0 l1 l2 l3 l4 l5; obtain ⟨l0, l1, l2, l3, l4, l5⟩ := hh.cells)
    | (go_at_call 18; with_reducible refine (c18 _).mono ?_; rintro e w1 ⟨rfl, b⟩; replace bel := seq_below bel b; replace hh := hh.below b; clear b l0 l1 l2 l3 l4 l5; obtain ⟨l0, l1, l2, l3, l4, l5⟩ := hh.cells)
    | (go_at_call 27; with_reducible refine (c27 _).mono ?_; rintro e w1 ⟨rfl, rfl⟩)
    | (go_at_call 28; with_reducible refine (c28 _).mono ?_; rintro e w1 ⟨rfl, rfl⟩)
    | (go_at_call 7; refine (awake_any (hw.below bel)).mono ?_; rintro e w1 ⟨rfl, b⟩; replace bel := seq_below bel b))
  go_ret
  exact ⟨rfl, bel⟩
set_option maxRecDepth 100000 in
set_option maxHeartbeats 4000000 in
theorem none_y_n0 {s a c d g k node i rc : Int} {w : World} (hw : WT w) (_hrc : (Lit.int .i64 rc).wf = true) (w0 : 0 ≤ node) (w1 : node < s) (w2 : 0 ≤ i) (w3 : i < bsI a) (s0 : ¬ 0 ≤ rc)
    (cR : ∀ w, Calls Tryd.prog 23 #[.agg #[.int .i64 s, .int .i64 a, .int .i64 c, .int .i64 d, .int .i64 g, .int .i64 k]] w fun e w' => e = .returned (.bool true) ∧ Below w.heap.size w w')
    (_cM : ∀ w, Calls Tryd.prog 24 #[.agg #[.int .i64 s, .int .i64 a, .int .i64 c, .int .i64 d, .int .i64 g, .int .i64 k]] w fun e w' => e = .returned (.int .i64 (bsI a)) ∧ Below w.heap.size w w')
    (c11 : ∀ (B : Nat) (w : World), Calls Tryd.prog 11 #[.agg #[.int .i64 s, .int .i64 a, .int .i64 c, .int .i64 d, .int .i64 g, .int .i64 k], .int .i64 node, .int .i64 i, .pointer (some ⟨B, 0, none⟩)] w fun e w' => ∃ P, e = .returned (.pointer (some ⟨P, 0, none⟩)) ∧ Below w.heap.size w w')
    (c20 : ∀ (B : Nat) (w : World), Calls Tryd.prog 20 #[.agg #[.int .i64 s, .int .i64 a, .int .i64 c, .int .i64 d, .int .i64 g, .int .i64 k], .int .i64 node, .int .i64 i, .int .u64 3, .pointer (some ⟨B, 0, none⟩)] w fun e w' => ∃ P, e = .returned (.pointer (some ⟨P, 0, none⟩)) ∧ Below w.heap.size w w')
    (c16 : ∀ (B : Nat) (w : World), Calls Tryd.prog 16 #[.agg #[.int .i64 s, .int .i64 a, .int .i64 c, .int .i64 d, .int .i64 g, .int .i64 k], .int .i64 node, .int .i64 i, .int .i64 rc, .int .i64 (-2), .int .u64 0, .pointer (some ⟨B, 0, none⟩)] w fun e w' => e = .returned (.pointer none) ∧ Below w.heap.size w w')
    (c26 : ∀ (B : Nat) (w : World), Calls Tryd.prog 26 #[.agg #[.int .i64 s, .int .i64 a, .int .i64 c, .int .i64 d, .int .i64 g, .int .i64 k], .int .i64 rc, .pointer (some ⟨B, 0, none⟩)] w fun e w' => e = .returned (.pointer none) ∧ Below w.heap.size w w')
    (c18 : ∀ (B : Nat) (w : World), Calls Tryd.prog 18 #[.agg #[.int .i64 s, .int .i64 a, .int .i64 c, .int .i64 d, .int .i64 g, .int .i64 k], .pointer (some ⟨B, 0, none⟩)] w fun e w' => ∃ P, e = .returned (.pointer (some ⟨P, 0, none⟩)) ∧ Below w.heap.size w w') :
    Calls Tryd.prog 6 #[.agg #[.int .i64 s, .int .i64 a, .int .i64 c, .int .i64 d, .int .i64 g, .int .i64 k], .int .i64 node, .int .i64 i, .int .i64 rc, .bool true] w fun e w' => e = .returned (.bool true) ∧ Below w.heap.size w w' := by
  have n12 := rd_nil (.pointer none)
  have n21 := se_nil (.pointer none)
  have n17 := la_nil (.pointer none)
  have n19 := tu_nil (.pointer none)
  have n25 := sm_nil (.pointer none)
  have bel := alloc_below w (.cells #[.int .i64 s, .int .i64 a, .int .i64 c, .int .i64 d, .int .i64 g, .int .i64 k] 42)
  have hh := cfg_new w s a c d g k
  have c22 := fun w => newBook_any w 0
  have c27 : ∀ wr B, IsBook wr 0 B 0 bk0 (.map none) (.map none) → Calls Tryd.prog 27 #[.pointer (some ⟨B, 0, none⟩), .int .i64 rc] wr fun e w' => e = .returned (.int .i64 (-1)) ∧ wr = w' := fun wr B h => born_any h rc _hrc
  have c28 : ∀ wr B, IsBook wr 0 B 0 bk0 (.map none) (.map none) → Calls Tryd.prog 28 #[.pointer (some ⟨B, 0, none⟩), .int .u64 3] wr fun e w' => e = .returned (.int .i64 (-1)) ∧ wr = w' := fun wr B h => turned_any h 3 (by decide)
  go_enter Tryd.func6, Tryd.ntmps6
  go_upto_region 1 with fail
  generalize w.alloc (.cells #[.int .i64 s, .int .i64 a, .int .i64 c, .int .i64 d, .int .i64 g, .int .i64 k] 42) = w0 at *
  generalize hC : w.heap.size = C at hh ⊢
  replace hC : Hid (w.heap.size = C) := hC
  obtain ⟨l0, l1, l2, l3, l4, l5⟩ := hh.cells
  go_upto_region 4 with (go_at_call 22; with_reducible refine (c22 _).mono ?_; rintro e w1 ⟨B, rfl, hk, hB, b⟩; replace bel := seq_below bel b; replace hh := hh.below b; clear b l0 l1 l2 l3 l4 l5; obtain ⟨l0, l1, l2, l3, l4, l5⟩ := hh.cells)
  clear c22 hB
  go_wp2_with (first
    | (go_at_call 23; with_reducible refine (cR _).mono ?_; rintro e w1 ⟨rfl, b⟩; replace bel := seq_below bel b; replace hh := hh.below b; replace hk := hk.below b; clear b l0 l1 l2 l3 l4 l5; obtain ⟨l0, l1, l2, l3, l4, l5⟩ := hh.cells)
    | (go_at_call 24; with_reducible refine (_cM _).mono ?_; rintro e w1 ⟨rfl, b⟩; replace bel := seq_below bel b; replace hh := hh.below b; replace hk := hk.below b; clear b l0 l1 l2 l3 l4 l5; obtain ⟨l0, l1, l2, l3, l4, l5⟩ := hh.cells)
    | (go_at_call 12; with_reducible refine (n12 _).mono ?_; rintro e w1 ⟨rfl, rfl⟩)
    | (go_at_call 21; with_reducible refine (n21 _).mono ?_; rintro e w1 ⟨rfl, rfl⟩)
    | (go_at_call 17; with_reducible refine (n17 _).mono ?_; rintro e w1 ⟨rfl, rfl⟩)
    | (go_at_call 19; with_reducible refine (n19 _).mono ?_; rintro e w1 ⟨rfl, rfl⟩)
    | (go_at_call 25; with_reducible refine (n25 _).mono ?_; rintro e w1 ⟨rfl, rfl⟩)
    | (go_at_call 11; with_reducible refine (c11 B _).mono ?_; rintro e w1 ⟨P11, rfl, b⟩; replace bel := seq_below bel b; replace hh := hh.below b; replace hk := hk.below b; clear b l0 l1 l2 l3 l4 l5; obtain ⟨l0, l1, l2, l3, l4, l5⟩ := hh.cells)
    | (go_at_call 20; with_reducible refine (c20 B _).mono ?_; rintro e w1 ⟨P20, rfl, b⟩; replace bel := seq_below bel b; replace hh := hh.below b; replace hk := hk.below b; clear b l0 l1 l2 l3 l4 l5; obtain ⟨l0, l1, l2, l3, l4, l5⟩ := hh.cells)
    | (go_at_call 16; with_reducible refine (c16 B _).mono ?_; rintro e w1 ⟨rfl, b⟩; replace bel := seq_below bel b; replace hh := hh.below b; replace hk := hk.below b; clear b l0 l1 l2 l3 l4 l5; obtain ⟨l0, l1, l2, l3, l4, l5⟩ := hh.cells)
    | (go_at_call 26; with_reducible refine (c26 B _).mono ?_; rintro e w1 ⟨rfl, b⟩; replace bel := seq_below bel b; replace hh := hh.below b; replace hk := hk.below b; clear b l0 l1 l2 l3 l4 l5; obtain ⟨l0, l1, l2, l3, l4, l5⟩ := hh.cells)
    | (go_at_call 18; with_reducible refine (c18 B _).mono ?_; rintro e w1 ⟨P18, rfl, b⟩; replace bel := seq_below bel b; replace hh := hh.below b; replace hk := hk.below b; clear b l0 l1 l2 l3 l4 l5; obtain ⟨l0, l1, l2, l3, l4, l5⟩ := hh.cells)
    | (go_at_call 27; with_reducible refine (c27 _ _ hk).mono ?_; rintro e w1 ⟨rfl, rfl⟩)
    | (go_at_call 28; with_reducible refine (c28 _ _ hk).mono ?_; rintro e w1 ⟨rfl, rfl⟩)
    | (go_at_call 7; refine (awake_any (hw.below bel)).mono ?_; rintro e w1 ⟨rfl, b⟩; replace bel := seq_below bel b))
  go_ret
  exact ⟨rfl, bel⟩
set_option maxRecDepth 100000 in
set_option maxHeartbeats 4000000 in
theorem none_n0_n1 {s a c d g k node i rc : Int} {w : World} (hw : WT w) (_hrc : (Lit.int .i64 rc).wf = true) (w0 : ¬ 0 ≤ node) (s0 : 0 ≤ rc) (s1 : ¬ rc < s)
    (cR : ∀ w, Calls Tryd.prog 23 #[.agg #[.int .i64 s, .int .i64 a, .int .i64 c, .int .i64 d, .int .i64 g, .int .i64 k]] w fun e w' => e = .returned (.bool true) ∧ Below w.heap.size w w')
    (_cM : ∀ w, Calls Tryd.prog 24 #[.agg #[.int .i64 s, .int .i64 a, .int .i64 c, .int .i64 d, .int .i64 g, .int .i64 k]] w fun e w' => e = .returned (.int .i64 (bsI a)) ∧ Below w.heap.size w w')
    (c11 : ∀ (B : Nat) (w : World), Calls Tryd.prog 11 #[.agg #[.int .i64 s, .int .i64 a, .int .i64 c, .int .i64 d, .int .i64 g, .int .i64 k], .int .i64 node, .int .i64 i, .pointer (some ⟨B, 0, none⟩)] w fun e w' => e = .returned (.pointer none) ∧ Below w.heap.size w w')
    (c20 : ∀ (B : Nat) (w : World), Calls Tryd.prog 20 #[.agg #[.int .i64 s, .int .i64 a, .int .i64 c, .int .i64 d, .int .i64 g, .int .i64 k], .int .i64 node, .int .i64 i, .int .u64 3, .pointer (some ⟨B, 0, none⟩)] w fun e w' => e = .returned (.pointer none) ∧ Below w.heap.size w w')
    (c16 : ∀ (B : Nat) (w : World), Calls Tryd.prog 16 #[.agg #[.int .i64 s, .int .i64 a, .int .i64 c, .int .i64 d, .int .i64 g, .int .i64 k], .int .i64 node, .int .i64 i, .int .i64 rc, .int .i64 (-2), .int .u64 0, .pointer (some ⟨B, 0, none⟩)] w fun e w' => e = .returned (.pointer none) ∧ Below w.heap.size w w')
    (c26 : ∀ (B : Nat) (w : World), Calls Tryd.prog 26 #[.agg #[.int .i64 s, .int .i64 a, .int .i64 c, .int .i64 d, .int .i64 g, .int .i64 k], .int .i64 rc, .pointer (some ⟨B, 0, none⟩)] w fun e w' => e = .returned (.pointer none) ∧ Below w.heap.size w w')
    (c18 : ∀ (B : Nat) (w : World), Calls Tryd.prog 18 #[.agg #[.int .i64 s, .int .i64 a, .int .i64 c, .int .i64 d, .int .i64 g, .int .i64 k], .pointer (some ⟨B, 0, none⟩)] w fun e w' => ∃ P, e = .returned (.pointer (some ⟨P, 0, none⟩)) ∧ Below w.heap.size w w') :
    Calls Tryd.prog 6 #[.agg #[.int .i64 s, .int .i64 a, .int .i64 c, .int .i64 d, .int .i64 g, .int .i64 k], .int .i64 node, .int .i64 i, .int .i64 rc, .bool true] w fun e w' => e = .returned (.bool true) ∧ Below w.heap.size w w' := by
  have n12 := rd_nil (.pointer none)
  have n21 := se_nil (.pointer none)
  have n17 := la_nil (.pointer none)
  have n19 := tu_nil (.pointer none)
  have n25 := sm_nil (.pointer none)
  have bel := alloc_below w (.cells #[.int .i64 s, .int .i64 a, .int .i64 c, .int .i64 d, .int .i64 g, .int .i64 k] 42)
  have hh := cfg_new w s a c d g k
  have c22 := fun w => newBook_any w 0
  have c27 : ∀ wr B, IsBook wr 0 B 0 bk0 (.map none) (.map none) → Calls Tryd.prog 27 #[.pointer (some ⟨B, 0, none⟩), .int .i64 rc] wr fun e w' => e = .returned (.int .i64 (-1)) ∧ wr = w' := fun wr B h => born_any h rc _hrc
  have c28 : ∀ wr B, IsBook wr 0 B 0 bk0 (.map none) (.map none) → Calls Tryd.prog 28 #[.pointer (some ⟨B, 0, none⟩), .int .u64 3] wr fun e w' => e = .returned (.int .i64 (-1)) ∧ wr = w' := fun wr B h => turned_any h 3 (by decide)
  go_enter Tryd.func6, Tryd.ntmps6
  go_upto_region 1 with fail
  generalize w.alloc (.cells #[.int .i64 s, .int .i64 a, .int .i64 c, .int .i64 d, .int .i64 g, .int .i64 k] 42) = w0 at *
  generalize hC : w.heap.size = C at hh ⊢
  replace hC : Hid (w.heap.size = C) := hC
  obtain ⟨l0, l1, l2, l3, l4, l5⟩ := hh.cells
  go_upto_region 4 with (go_at_call 22; with_reducible refine (c22 _).mono ?_; rintro e w1 ⟨B, rfl, hk, hB, b⟩; replace bel := seq_below bel b; replace hh := hh.below b; clear b l0 l1 l2 l3 l4 l5; obtain ⟨l0, l1, l2, l3, l4, l5⟩ := hh.cells)
  clear c22 hB
  go_wp2_with (first
    | (go_at_call 23; with_reducible refine (cR _).mono ?_; rintro e w1 ⟨rfl, b⟩; replace bel := seq_below bel b; replace hh := hh.below b; replace hk := hk.below b; clear b l0 l1 l2 l3 l4 l5; obtain ⟨l0, l1, l2, l3, l4, l5⟩ := hh.cells)
    | (go_at_call 24; with_reducible refine (_cM _).mono ?_; rintro e w1 ⟨rfl, b⟩; replace bel := seq_below bel b; replace hh := hh.below b; replace hk := hk.below b; clear b l0 l1 l2 l3 l4 l5; obtain ⟨l0, l1, l2, l3, l4, l5⟩ := hh.cells)
    | (go_at_call 12; with_reducible refine (n12 _).mono ?_; rintro e w1 ⟨rfl, rfl⟩)
    | (go_at_call 21; with_reducible refine (n21 _).mono ?_; rintro e w1 ⟨rfl, rfl⟩)
    | (go_at_call 17; with_reducible refine (n17 _).mono ?_; rintro e w1 ⟨rfl, rfl⟩)
    | (go_at_call 19; with_reducible refine (n19 _).mono ?_; rintro e w1 ⟨rfl, rfl⟩)
    | (go_at_call 25; with_reducible refine (n25 _).mono ?_; rintro e w1 ⟨rfl, rfl⟩)
    | (go_at_call 11; with_reducible refine (c11 B _).mono ?_; rintro e w1 ⟨rfl, b⟩; replace bel := seq_below bel b; replace hh := hh.below b; replace hk := hk.below b; clear b l0 l1 l2 l3 l4 l5; obtain ⟨l0, l1, l2, l3, l4, l5⟩ := hh.cells)
    | (go_at_call 20; with_reducible refine (c20 B _).mono ?_; rintro e w1 ⟨rfl, b⟩; replace bel := seq_below bel b; replace hh := hh.below b; replace hk := hk.below b; clear b l0 l1 l2 l3 l4 l5; obtain ⟨l0, l1, l2, l3, l4, l5⟩ := hh.cells)
    | (go_at_call 16; with_reducible refine (c16 B _).mono ?_; rintro e w1 ⟨rfl, b⟩; replace bel := seq_below bel b; replace hh := hh.below b; replace hk := hk.below b; clear b l0 l1 l2 l3 l4 l5; obtain ⟨l0, l1, l2, l3, l4, l5⟩ := hh.cells)
    | (go_at_call 26; with_reducible refine (c26 B _).mono ?_; rintro e w1 ⟨rfl, b⟩; replace bel := seq_below bel b; replace hh := hh.below b; replace hk := hk.below b; clear b l0 l1 l2 l3 l4 l5; obtain ⟨l0, l1, l2, l3, l4, l5⟩ := hh.cells)
    | (go_at_call 18; with_reducible refine (c18 B _).mono ?_; rintro e w1 ⟨P18, rfl, b⟩; replace bel := seq_below bel b; replace hh := hh.below b; replace hk := hk.below b; clear b l0 l1 l2 l3 l4 l5; obtain ⟨l0, l1, l2, l3, l4, l5⟩ := hh.cells)
    | (go_at_call 27; with_reducible refine (c27 _ _ hk).mono ?_; rintro e w1 ⟨rfl, rfl⟩)
    | (go_at_call 28; with_reducible refine (c28 _ _ hk).mono ?_; rintro e w1 ⟨rfl, rfl⟩)
    | (go_at_call 7; refine (awake_any (hw.below bel)).mono ?_; rintro e w1 ⟨rfl, b⟩; replace bel := seq_below bel b))
  go_ret
  refine ⟨?_, bel⟩
  first
    | rfl
    | (show Ending.returned (Value.bool (!decide (rc < s))) = _; rw [decide_eq_false (by omega)]; rfl)
set_option maxRecDepth 100000 in
set_option maxHeartbeats 4000000 in
theorem none_n2_y {s a c d g k node i rc : Int} {w : World} (hw : WT w) (_hrc : (Lit.int .i64 rc).wf = true) (w0 : 0 ≤ node) (w1 : node < s) (w2 : ¬ 0 ≤ i) (s0 : 0 ≤ rc) (s1 : rc < s)
    (cR : ∀ w, Calls Tryd.prog 23 #[.agg #[.int .i64 s, .int .i64 a, .int .i64 c, .int .i64 d, .int .i64 g, .int .i64 k]] w fun e w' => e = .returned (.bool true) ∧ Below w.heap.size w w')
    (_cM : ∀ w, Calls Tryd.prog 24 #[.agg #[.int .i64 s, .int .i64 a, .int .i64 c, .int .i64 d, .int .i64 g, .int .i64 k]] w fun e w' => e = .returned (.int .i64 (bsI a)) ∧ Below w.heap.size w w')
    (c11 : ∀ (B : Nat) (w : World), Calls Tryd.prog 11 #[.agg #[.int .i64 s, .int .i64 a, .int .i64 c, .int .i64 d, .int .i64 g, .int .i64 k], .int .i64 node, .int .i64 i, .pointer (some ⟨B, 0, none⟩)] w fun e w' => e = .returned (.pointer none) ∧ Below w.heap.size w w')
    (c20 : ∀ (B : Nat) (w : World), Calls Tryd.prog 20 #[.agg #[.int .i64 s, .int .i64 a, .int .i64 c, .int .i64 d, .int .i64 g, .int .i64 k], .int .i64 node, .int .i64 i, .int .u64 3, .pointer (some ⟨B, 0, none⟩)] w fun e w' => e = .returned (.pointer none) ∧ Below w.heap.size w w')
    (c16 : ∀ (B : Nat) (w : World), Calls Tryd.prog 16 #[.agg #[.int .i64 s, .int .i64 a, .int .i64 c, .int .i64 d, .int .i64 g, .int .i64 k], .int .i64 node, .int .i64 i, .int .i64 rc, .int .i64 (-2), .int .u64 0, .pointer (some ⟨B, 0, none⟩)] w fun e w' => e = .returned (.pointer none) ∧ Below w.heap.size w w')
    (c26 : ∀ (B : Nat) (w : World), Calls Tryd.prog 26 #[.agg #[.int .i64 s, .int .i64 a, .int .i64 c, .int .i64 d, .int .i64 g, .int .i64 k], .int .i64 rc, .pointer (some ⟨B, 0, none⟩)] w fun e w' => ∃ P, e = .returned (.pointer (some ⟨P, 0, none⟩)) ∧ Below w.heap.size w w')
    (c18 : ∀ (B : Nat) (w : World), Calls Tryd.prog 18 #[.agg #[.int .i64 s, .int .i64 a, .int .i64 c, .int .i64 d, .int .i64 g, .int .i64 k], .pointer (some ⟨B, 0, none⟩)] w fun e w' => ∃ P, e = .returned (.pointer (some ⟨P, 0, none⟩)) ∧ Below w.heap.size w w') :
    Calls Tryd.prog 6 #[.agg #[.int .i64 s, .int .i64 a, .int .i64 c, .int .i64 d, .int .i64 g, .int .i64 k], .int .i64 node, .int .i64 i, .int .i64 rc, .bool true] w fun e w' => e = .returned (.bool true) ∧ Below w.heap.size w w' := by
  have n12 := rd_nil (.pointer none)
  have n21 := se_nil (.pointer none)
  have n17 := la_nil (.pointer none)
  have n19 := tu_nil (.pointer none)
  have n25 := sm_nil (.pointer none)
  have bel := alloc_below w (.cells #[.int .i64 s, .int .i64 a, .int .i64 c, .int .i64 d, .int .i64 g, .int .i64 k] 42)
  have hh := cfg_new w s a c d g k
  have c22 := fun w => newBook_any w 0
  have c27 : ∀ wr B, IsBook wr 0 B 0 bk0 (.map none) (.map none) → Calls Tryd.prog 27 #[.pointer (some ⟨B, 0, none⟩), .int .i64 rc] wr fun e w' => e = .returned (.int .i64 (-1)) ∧ wr = w' := fun wr B h => born_any h rc _hrc
  have c28 : ∀ wr B, IsBook wr 0 B 0 bk0 (.map none) (.map none) → Calls Tryd.prog 28 #[.pointer (some ⟨B, 0, none⟩), .int .u64 3] wr fun e w' => e = .returned (.int .i64 (-1)) ∧ wr = w' := fun wr B h => turned_any h 3 (by decide)
  go_enter Tryd.func6, Tryd.ntmps6
  go_upto_region 1 with fail
  generalize w.alloc (.cells #[.int .i64 s, .int .i64 a, .int .i64 c, .int .i64 d, .int .i64 g, .int .i64 k] 42) = w0 at *
  generalize hC : w.heap.size = C at hh ⊢
  replace hC : Hid (w.heap.size = C) := hC
  obtain ⟨l0, l1, l2, l3, l4, l5⟩ := hh.cells
  go_upto_region 4 with (go_at_call 22; with_reducible refine (c22 _).mono ?_; rintro e w1 ⟨B, rfl, hk, hB, b⟩; replace bel := seq_below bel b; replace hh := hh.below b; clear b l0 l1 l2 l3 l4 l5; obtain ⟨l0, l1, l2, l3, l4, l5⟩ := hh.cells)
  clear c22 hB
  go_wp2_with (first
    | (go_at_call 23; with_reducible refine (cR _).mono ?_; rintro e w1 ⟨rfl, b⟩; replace bel := seq_below bel b; replace hh := hh.below b; replace hk := hk.below b; clear b l0 l1 l2 l3 l4 l5; obtain ⟨l0, l1, l2, l3, l4, l5⟩ := hh.cells)
    | (go_at_call 24; with_reducible refine (_cM _).mono ?_; rintro e w1 ⟨rfl, b⟩; replace bel := seq_below bel b; replace hh := hh.below b; replace hk := hk.below b; clear b l0 l1 l2 l3 l4 l5; obtain ⟨l0, l1, l2, l3, l4, l5⟩ := hh.cells)
    | (go_at_call 12; with_reducible refine (n12 _).mono ?_; rintro e w1 ⟨rfl, rfl⟩)
    | (go_at_call 21; with_reducible refine (n21 _).mono ?_; rintro e w1 ⟨rfl, rfl⟩)
    | (go_at_call 17; with_reducible refine (n17 _).mono ?_; rintro e w1 ⟨rfl, rfl⟩)
    | (go_at_call 19; with_reducible refine (n19 _).mono ?_; rintro e w1 ⟨rfl, rfl⟩)
    | (go_at_call 25; with_reducible refine (n25 _).mono ?_; rintro e w1 ⟨rfl, rfl⟩)
    | (go_at_call 11; with_reducible refine (c11 B _).mono ?_; rintro e w1 ⟨rfl, b⟩; replace bel := seq_below bel b; replace hh := hh.below b; replace hk := hk.below b; clear b l0 l1 l2 l3 l4 l5; obtain ⟨l0, l1, l2, l3, l4, l5⟩ := hh.cells)
    | (go_at_call 20; with_reducible refine (c20 B _).mono ?_; rintro e w1 ⟨rfl, b⟩; replace bel := seq_below bel b; replace hh := hh.below b; replace hk := hk.below b; clear b l0 l1 l2 l3 l4 l5; obtain ⟨l0, l1, l2, l3, l4, l5⟩ := hh.cells)
    | (go_at_call 16; with_reducible refine (c16 B _).mono ?_; rintro e w1 ⟨rfl, b⟩; replace bel := seq_below bel b; replace hh := hh.below b; replace hk := hk.below b; clear b l0 l1 l2 l3 l4 l5; obtain ⟨l0, l1, l2, l3, l4, l5⟩ := hh.cells)
    | (go_at_call 26; with_reducible refine (c26 B _).mono ?_; rintro e w1 ⟨P26, rfl, b⟩; replace bel := seq_below bel b; replace hh := hh.below b; replace hk := hk.below b; clear b l0 l1 l2 l3 l4 l5; obtain ⟨l0, l1, l2, l3, l4, l5⟩ := hh.cells)
    | (go_at_call 18; with_reducible refine (c18 B _).mono ?_; rintro e w1 ⟨P18, rfl, b⟩; replace bel := seq_below bel b; replace hh := hh.below b; replace hk := hk.below b; clear b l0 l1 l2 l3 l4 l5; obtain ⟨l0, l1, l2, l3, l4, l5⟩ := hh.cells)
    | (go_at_call 27; with_reducible refine (c27 _ _ hk).mono ?_; rintro e w1 ⟨rfl, rfl⟩)
    | (go_at_call 28; with_reducible refine (c28 _ _ hk).mono ?_; rintro e w1 ⟨rfl, rfl⟩)
    | (go_at_call 7; refine (awake_any (hw.below bel)).mono ?_; rintro e w1 ⟨rfl, b⟩; replace bel := seq_below bel b))
  go_ret
  exact ⟨rfl, bel⟩
set_option maxRecDepth 100000 in
set_option maxHeartbeats 4000000 in
theorem none_n3_n0 {s a c d g k node i rc : Int} {w : World} (hw : WT w) (_hrc : (Lit.int .i64 rc).wf = true) (w0 : 0 ≤ node) (w1 : node < s) (w2 : 0 ≤ i) (w3 : ¬ i < bsI a) (s0 : ¬ 0 ≤ rc)
    (cR : ∀ w, Calls Tryd.prog 23 #[.agg #[.int .i64 s, .int .i64 a, .int .i64 c, .int .i64 d, .int .i64 g, .int .i64 k]] w fun e w' => e = .returned (.bool true) ∧ Below w.heap.size w w')
    (_cM : ∀ w, Calls Tryd.prog 24 #[.agg #[.int .i64 s, .int .i64 a, .int .i64 c, .int .i64 d, .int .i64 g, .int .i64 k]] w fun e w' => e = .returned (.int .i64 (bsI a)) ∧ Below w.heap.size w w')
    (c11 : ∀ (B : Nat) (w : World), Calls Tryd.prog 11 #[.agg #[.int .i64 s, .int .i64 a, .int .i64 c, .int .i64 d, .int .i64 g, .int .i64 k], .int .i64 node, .int .i64 i, .pointer (some ⟨B, 0, none⟩)] w fun e w' => e = .returned (.pointer none) ∧ Below w.heap.size w w')
    (c20 : ∀ (B : Nat) (w : World), Calls Tryd.prog 20 #[.agg #[.int .i64 s, .int .i64 a, .int .i64 c, .int .i64 d, .int .i64 g, .int .i64 k], .int .i64 node, .int .i64 i, .int .u64 3, .pointer (some ⟨B, 0, none⟩)] w fun e w' => e = .returned (.pointer none) ∧ Below w.heap.size w w')
    (c16 : ∀ (B : Nat) (w : World), Calls Tryd.prog 16 #[.agg #[.int .i64 s, .int .i64 a, .int .i64 c, .int .i64 d, .int .i64 g, .int .i64 k], .int .i64 node, .int .i64 i, .int .i64 rc, .int .i64 (-2), .int .u64 0, .pointer (some ⟨B, 0, none⟩)] w fun e w' => e = .returned (.pointer none) ∧ Below w.heap.size w w')
    (c26 : ∀ (B : Nat) (w : World), Calls Tryd.prog 26 #[.agg #[.int .i64 s, .int .i64 a, .int .i64 c, .int .i64 d, .int .i64 g, .int .i64 k], .int .i64 rc, .pointer (some ⟨B, 0, none⟩)] w fun e w' => e = .returned (.pointer none) ∧ Below w.heap.size w w')
    (c18 : ∀ (B : Nat) (w : World), Calls Tryd.prog 18 #[.agg #[.int .i64 s, .int .i64 a, .int .i64 c, .int .i64 d, .int .i64 g, .int .i64 k], .pointer (some ⟨B, 0, none⟩)] w fun e w' => ∃ P, e = .returned (.pointer (some ⟨P, 0, none⟩)) ∧ Below w.heap.size w w') :
    Calls Tryd.prog 6 #[.agg #[.int .i64 s, .int .i64 a, .int .i64 c, .int .i64 d, .int .i64 g, .int .i64 k], .int .i64 node, .int .i64 i, .int .i64 rc, .bool true] w fun e w' => e = .returned (.bool true) ∧ Below w.heap.size w w' := by
  have n12 := rd_nil (.pointer none)
  have n21 := se_nil (.pointer none)
  have n17 := la_nil (.pointer none)
  have n19 := tu_nil (.pointer none)
  have n25 := sm_nil (.pointer none)
  have bel := alloc_below w (.cells #[.int .i64 s, .int .i64 a, .int .i64 c, .int .i64 d, .int .i64 g, .int .i64 k] 42)
  have hh := cfg_new w s a c d g k
  have c22 := fun w => newBook_any w 0
  have c27 : ∀ wr B, IsBook wr 0 B 0 bk0 (.map none) (.map none) → Calls Tryd.prog 27 #[.pointer (some ⟨B, 0, none⟩), .int .i64 rc] wr fun e w' => e = .returned (.int .i64 (-1)) ∧ wr = w' := fun wr B h => born_any h rc _hrc
  have c28 : ∀ wr B, IsBook wr 0 B 0 bk0 (.map none) (.map none) → Calls Tryd.prog 28 #[.pointer (some ⟨B, 0, none⟩), .int .u64 3] wr fun e w' => e = .returned (.int .i64 (-1)) ∧ wr = w' := fun wr B h => turned_any h 3 (by decide)
  go_enter Tryd.func6, Tryd.ntmps6
  go_upto_region 1 with fail
  generalize w.alloc (.cells #[.int .i64 s, .int .i64 a, .int .i64 c, .int .i64 d, .int .i64 g, .int .i64 k] 42) = w0 at *
  generalize hC : w.heap.size = C at hh ⊢
  replace hC : Hid (w.heap.size = C) := hC
  obtain ⟨l0, l1, l2, l3, l4, l5⟩ := hh.cells
  go_upto_region 4 with (go_at_call 22; with_reducible refine (c22 _).mono ?_; rintro e w1 ⟨B, rfl, hk, hB, b⟩; replace bel := seq_below bel b; replace hh := hh.below b; clear b l0 l1 l2 l3 l4 l5; obtain ⟨l0, l1, l2, l3, l4, l5⟩ := hh.cells)
  clear c22 hB
  go_wp2_with (first
    | (go_at_call 23; with_reducible refine (cR _).mono ?_; rintro e w1 ⟨rfl, b⟩; replace bel := seq_below bel b; replace hh := hh.below b; replace hk := hk.below b; clear b l0 l1 l2 l3 l4 l5; obtain ⟨l0, l1, l2, l3, l4, l5⟩ := hh.cells)
    | (go_at_call 24; with_reducible refine (_cM _).mono ?_; rintro e w1 ⟨rfl, b⟩; replace bel := seq_below bel b; replace hh := hh.below b; replace hk := hk.below b; clear b l0 l1 l2 l3 l4 l5; obtain ⟨l0, l1, l2, l3, l4, l5⟩ := hh.cells)
    | (go_at_call 12; with_reducible refine (n12 _).mono ?_; rintro e w1 ⟨rfl, rfl⟩)
    | (go_at_call 21; with_reducible refine (n21 _).mono ?_; rintro e w1 ⟨rfl, rfl⟩)
    | (go_at_call 17; with_reducible refine (n17 _).mono ?_; rintro e w1 ⟨rfl, rfl⟩)
    | (go_at_call 19; with_reducible refine (n19 _).mono ?_; rintro e w1 ⟨rfl, rfl⟩)
    | (go_at_call 25; with_reducible refine (n25 _).mono ?_; rintro e w1 ⟨rfl, rfl⟩)
    | (go_at_call 11; with_reducible refine (c11 B _).mono ?_; rintro e w1 ⟨rfl, b⟩; replace bel := seq_below bel b; replace hh := hh.below b; replace hk := hk.below b; clear b l0 l1 l2 l3 l4 l5; obtain ⟨l0, l1, l2, l3, l4, l5⟩ := hh.cells)
    | (go_at_call 20; with_reducible refine (c20 B _).mono ?_; rintro e w1 ⟨rfl, b⟩; replace bel := seq_below bel b; replace hh := hh.below b; replace hk := hk.below b; clear b l0 l1 l2 l3 l4 l5; obtain ⟨l0, l1, l2, l3, l4, l5⟩ := hh.cells)
    | (go_at_call 16; with_reducible refine (c16 B _).mono ?_; rintro e w1 ⟨rfl, b⟩; replace bel := seq_below bel b; replace hh := hh.below b; replace hk := hk.below b; clear b l0 l1 l2 l3 l4 l5; obtain ⟨l0, l1, l2, l3, l4, l5⟩ := hh.cells)
    | (go_at_call 26; with_reducible refine (c26 B _).mono ?_; rintro e w1 ⟨rfl, b⟩; replace bel := seq_below bel b; replace hh := hh.below b; replace hk := hk.below b; clear b l0 l1 l2 l3 l4 l5; obtain ⟨l0, l1, l2, l3, l4, l5⟩ := hh.cells)
    | (go_at_call 18; with_reducible refine (c18 B _).mono ?_; rintro e w1 ⟨P18, rfl, b⟩; replace bel := seq_below bel b; replace hh := hh.below b; replace hk := hk.below b; clear b l0 l1 l2 l3 l4 l5; obtain ⟨l0, l1, l2, l3, l4, l5⟩ := hh.cells)
    | (go_at_call 27; with_reducible refine (c27 _ _ hk).mono ?_; rintro e w1 ⟨rfl, rfl⟩)
    | (go_at_call 28; with_reducible refine (c28 _ _ hk).mono ?_; rintro e w1 ⟨rfl, rfl⟩)
    | (go_at_call 7; refine (awake_any (hw.below bel)).mono ?_; rintro e w1 ⟨rfl, b⟩; replace bel := seq_below bel b))
  go_ret
  exact ⟨rfl, bel⟩
end Go.Proofs.YtnegdabcjnhpdaaDoor
/- The law of no machine: its walk, case by case, over the callees' contracts. -/
namespace Go.Proofs.YtnegdabcjnhpdaaDoor
open Go.RowKit
open Mm (IsMem MS touched Only)
open Hh (WT)
set_option maxRecDepth 100000 in
set_option maxHeartbeats 4000000 in
theorem none_01 {s a c d g k node i rc : Int} {w : World} (hw : WT w) (_hrc : (Lit.int .i64 rc).wf = true) 
    (cR : ∀ w, Calls Tryd.prog 23 #[.agg #[.int .i64 s, .int .i64 a, .int .i64 c, .int .i64 d, .int .i64 g, .int .i64 k]] w fun e w' => e = .returned (.bool false) ∧ Below w.heap.size w w')
    (_cM : ∀ w, Calls Tryd.prog 24 #[.agg #[.int .i64 s, .int .i64 a, .int .i64 c, .int .i64 d, .int .i64 g, .int .i64 k]] w fun e w' => e = .returned (.int .i64 (bsI a)) ∧ Below w.heap.size w w')
    (c11 : ∀ (B : Nat) (w : World), Calls Tryd.prog 11 #[.agg #[.int .i64 s, .int .i64 a, .int .i64 c, .int .i64 d, .int .i64 g, .int .i64 k], .int .i64 node, .int .i64 i, .pointer (some ⟨B, 0, none⟩)] w fun e w' => e = .returned (.pointer none) ∧ Below w.heap.size w w')
    (c20 : ∀ (B : Nat) (w : World), Calls Tryd.prog 20 #[.agg #[.int .i64 s, .int .i64 a, .int .i64 c, .int .i64 d, .int .i64 g, .int .i64 k], .int .i64 node, .int .i64 i, .int .u64 3, .pointer (some ⟨B, 0, none⟩)] w fun e w' => e = .returned (.pointer none) ∧ Below w.heap.size w w')
    (c16 : ∀ (B : Nat) (w : World), Calls Tryd.prog 16 #[.agg #[.int .i64 s, .int .i64 a, .int .i64 c, .int .i64 d, .int .i64 g, .int .i64 k], .int .i64 node, .int .i64 i, .int .i64 rc, .int .i64 (-2), .int .u64 0, .pointer (some ⟨B, 0, none⟩)] w fun e w' => e = .returned (.pointer none) ∧ Below w.heap.size w w')
    (c26 : ∀ (B : Nat) (w : World), Calls Tryd.prog 26 #[.agg #[.int .i64 s, .int .i64 a, .int .i64 c, .int .i64 d, .int .i64 g, .int .i64 k], .int .i64 rc, .pointer (some ⟨B, 0, none⟩)] w fun e w' => e = .returned (.pointer none) ∧ Below w.heap.size w w')
    (c18 : ∀ (B : Nat) (w : World), Calls Tryd.prog 18 #[.agg #[.int .i64 s, .int .i64 a, .int .i64 c, .int .i64 d, .int .i64 g, .int .i64 k], .pointer (some ⟨B, 0, none⟩)] w fun e w' => e = .returned (.pointer none) ∧ Below w.heap.size w w') :
    Calls Tryd.prog 6 #[.agg #[.int .i64 s, .int .i64 a, .int .i64 c, .int .i64 d, .int .i64 g, .int .i64 k], .int .i64 node, .int .i64 i, .int .i64 rc, .bool true] w fun e w' => e = .returned (.bool true) ∧ Below w.heap.size w w' := by
  have n12 := rd_nil (.pointer none)
  have n21 := se_nil (.pointer none)
  have n17 := la_nil (.pointer none)
  have n19 := tu_nil (.pointer none)
  have n25 := sm_nil (.pointer none)
  have bel := alloc_below w (.cells #[.int .i64 s, .int .i64 a, .int .i64 c, .int .i64 d, .int .i64 g, .int .i64 k] 42)
  have hh := cfg_new w s a c d g k
  have c22 := fun w => newBook_any w 0
  have c27 : ∀ wr B, IsBook wr 0 B 0 bk0 (.map none) (.map none) → Calls Tryd.prog 27 #[.pointer (some ⟨B, 0, none⟩), .int .i64 rc] wr fun e w' => e = .returned (.int .i64 (-1)) ∧ wr = w' := fun wr B h => born_any h rc _hrc
  have c28 : ∀ wr B, IsBook wr 0 B 0 bk0 (.map none) (.map none) → Calls Tryd.prog 28 #[.pointer (some ⟨B, 0, none⟩), .int .u64 3] wr fun e w' => e = .returned (.int .i64 (-1)) ∧ wr = w' := fun wr B h => turned_any h 3 (by decide)
  go_enter Tryd.func6, Tryd.ntmps6
  go_upto_region 1 with fail
  generalize w.alloc (.cells #[.int .i64 s, .int .i64 a, .int .i64 c, .int .i64 d, .int .i64 g, .int .i64 k] 42) = w0 at *
  generalize hC : w.heap.size = C at hh ⊢
  replace hC : Hid (w.heap.size = C) := hC
  obtain ⟨l0, l1, l2, l3, l4, l5⟩ := hh.cells
  go_upto_region 4 with (go_at_call 22; with_reducible refine (c22 _).mono ?_; rintro e w1 ⟨B, rfl, hk, hB, b⟩; replace bel := seq_below bel b; replace hh := hh.below b; clear b l0 l1 l2 l3 l4 l5; obtain ⟨l0, l1, l2, l3, l4, l5⟩ := hh.cells)
  clear c22 hB
  go_wp2_with (first
    | (go_at_call 23; with_reducible refine (cR _).mono ?_; rintro e w1 ⟨rfl, b⟩; replace bel := seq_below bel b; replace hh := hh.below b; replace hk := hk.below b; clear b l0 l1 l2 l3 l4 l5; obtain ⟨l0, l1, l2, l3, l4, l5⟩ := hh.cells)
    | (go_at_call 24; with_reducible refine (_cM _).mono ?_; rintro e w1 ⟨rfl, b⟩; replace bel := seq_below bel b; replace hh := hh.below b; replace hk := hk.below b; clear b l0 l1 l2 l3 l4 l5; obtain ⟨l0, l1, l2, l3, l4, l5⟩ := hh.cells)
    | (go_at_call 12; with_reducible refine (n12 _).mono ?_; rintro e w1 ⟨rfl, rfl⟩)
    | (go_at_call 21; with_reducible refine (n21 _).mono ?_; rintro e w1 ⟨rfl, rfl⟩)
    | (go_at_call 17; with_reducible refine (n17 _).mono ?_; rintro e w1 ⟨rfl, rfl⟩)
    | (go_at_call 19; with_reducible refine (n19 _).mono ?_; rintro e w1 ⟨rfl, rfl⟩)
    | (go_at_call 25; with_reducible refine (n25 _).mono ?_; rintro e w1 ⟨rfl, rfl⟩)
    | (go_at_call 11; with_reducible refine (c11 B _).mono ?_; rintro e w1 ⟨rfl, b⟩; replace bel := seq_below bel b; replace hh := hh.below b; replace hk := hk.below b; clear b l0 l1 l2 l3 l4 l5; obtain ⟨l0, l1, l2, l3, l4, l5⟩ := hh.cells)
    | (go_at_call 20; with_reducible refine (c20 B _).mono ?_; rintro e w1 ⟨rfl, b⟩; replace bel := seq_below bel b; replace hh := hh.below b; replace hk := hk.below b; clear b l0 l1 l2 l3 l4 l5; obtain ⟨l0, l1, l2, l3, l4, l5⟩ := hh.cells)
    | (go_at_call 16; with_reducible refine (c16 B _).mono ?_; rintro e w1 ⟨rfl, b⟩; replace bel := seq_below bel b; replace hh := hh.below b; replace hk := hk.below b; clear b l0 l1 l2 l3 l4 l5; obtain ⟨l0, l1, l2, l3, l4, l5⟩ := hh.cells)
    | (go_at_call 26; with_reducible refine (c26 B _).mono ?_; rintro e w1 ⟨rfl, b⟩; replace bel := seq_below bel b; replace hh := hh.below b; replace hk := hk.below b; clear b l0 l1 l2 l3 l4 l5; obtain ⟨l0, l1, l2, l3, l4, l5⟩ := hh.cells)
    | (go_at_call 18; with_reducible refine (c18 B _).mono ?_; rintro e w1 ⟨rfl, b⟩; replace bel := seq_below bel b; replace hh := hh.below b; replace hk := hk.below b; clear b l0 l1 l2 l3 l4 l5; obtain ⟨l0, l1, l2, l3, l4, l5⟩ := hh.cells)
    | (go_at_call 27; with_reducible refine (c27 _ _ hk).mono ?_; rintro e w1 ⟨rfl, rfl⟩)
    | (go_at_call 28; with_reducible refine (c28 _ _ hk).mono ?_; rintro e w1 ⟨rfl, rfl⟩)
    | (go_at_call 7; refine (awake_any (hw.below bel)).mono ?_; rintro e w1 ⟨rfl, b⟩; replace bel := seq_below bel b))
  go_ret
  exact ⟨rfl, bel⟩
set_option maxRecDepth 100000 in
set_option maxHeartbeats 4000000 in
theorem none_y_n1 {s a c d g k node i rc : Int} {w : World} (hw : WT w) (_hrc : (Lit.int .i64 rc).wf = true) (w0 : 0 ≤ node) (w1 : node < s) (w2 : 0 ≤ i) (w3 : i < bsI a) (s0 : 0 ≤ rc) (s1 : ¬ rc < s)
    (cR : ∀ w, Calls Tryd.prog 23 #[.agg #[.int .i64 s, .int .i64 a, .int .i64 c, .int .i64 d, .int .i64 g, .int .i64 k]] w fun e w' => e = .returned (.bool true) ∧ Below w.heap.size w w')
    (_cM : ∀ w, Calls Tryd.prog 24 #[.agg #[.int .i64 s, .int .i64 a, .int .i64 c, .int .i64 d, .int .i64 g, .int .i64 k]] w fun e w' => e = .returned (.int .i64 (bsI a)) ∧ Below w.heap.size w w')
    (c11 : ∀ (B : Nat) (w : World), Calls Tryd.prog 11 #[.agg #[.int .i64 s, .int .i64 a, .int .i64 c, .int .i64 d, .int .i64 g, .int .i64 k], .int .i64 node, .int .i64 i, .pointer (some ⟨B, 0, none⟩)] w fun e w' => ∃ P, e = .returned (.pointer (some ⟨P, 0, none⟩)) ∧ Below w.heap.size w w')
    (c20 : ∀ (B : Nat) (w : World), Calls Tryd.prog 20 #[.agg #[.int .i64 s, .int .i64 a, .int .i64 c, .int .i64 d, .int .i64 g, .int .i64 k], .int .i64 node, .int .i64 i, .int .u64 3, .pointer (some ⟨B, 0, none⟩)] w fun e w' => ∃ P, e = .returned (.pointer (some ⟨P, 0, none⟩)) ∧ Below w.heap.size w w')
    (c16 : ∀ (B : Nat) (w : World), Calls Tryd.prog 16 #[.agg #[.int .i64 s, .int .i64 a, .int .i64 c, .int .i64 d, .int .i64 g, .int .i64 k], .int .i64 node, .int .i64 i, .int .i64 rc, .int .i64 (-2), .int .u64 0, .pointer (some ⟨B, 0, none⟩)] w fun e w' => e = .returned (.pointer none) ∧ Below w.heap.size w w')
    (c26 : ∀ (B : Nat) (w : World), Calls Tryd.prog 26 #[.agg #[.int .i64 s, .int .i64 a, .int .i64 c, .int .i64 d, .int .i64 g, .int .i64 k], .int .i64 rc, .pointer (some ⟨B, 0, none⟩)] w fun e w' => e = .returned (.pointer none) ∧ Below w.heap.size w w')
    (c18 : ∀ (B : Nat) (w : World), Calls Tryd.prog 18 #[.agg #[.int .i64 s, .int .i64 a, .int .i64 c, .int .i64 d, .int .i64 g, .int .i64 k], .pointer (some ⟨B, 0, none⟩)] w fun e w' => ∃ P, e = .returned (.pointer (some ⟨P, 0, none⟩)) ∧ Below w.heap.size w w') :
    Calls Tryd.prog 6 #[.agg #[.int .i64 s, .int .i64 a, .int .i64 c, .int .i64 d, .int .i64 g, .int .i64 k], .int .i64 node, .int .i64 i, .int .i64 rc, .bool true] w fun e w' => e = .returned (.bool true) ∧ Below w.heap.size w w' := by
  have n12 := rd_nil (.pointer none)
  have n21 := se_nil (.pointer none)
  have n17 := la_nil (.pointer none)
  have n19 := tu_nil (.pointer none)
  have n25 := sm_nil (.pointer none)
  have bel := alloc_below w (.cells #[.int .i64 s, .int .i64 a, .int .i64 c, .int .i64 d, .int .i64 g, .int .i64 k] 42)
  have hh := cfg_new w s a c d g k
  have c22 := fun w => newBook_any w 0
  have c27 : ∀ wr B, IsBook wr 0 B 0 bk0 (.map none) (.map none) → Calls Tryd.prog 27 #[.pointer (some ⟨B, 0, none⟩), .int .i64 rc] wr fun e w' => e = .returned (.int .i64 (-1)) ∧ wr = w' := fun wr B h => born_any h rc _hrc
  have c28 : ∀ wr B, IsBook wr 0 B 0 bk0 (.map none) (.map none) → Calls Tryd.prog 28 #[.pointer (some ⟨B, 0, none⟩), .int .u64 3] wr fun e w' => e = .returned (.int .i64 (-1)) ∧ wr = w' := fun wr B h => turned_any h 3 (by decide)
  go_enter Tryd.func6, Tryd.ntmps6
  go_upto_region 1 with fail
  generalize w.alloc (.cells #[.int .i64 s, .int .i64 a, .int .i64 c, .int .i64 d, .int .i64 g, .int .i64 k] 42) = w0 at *
  generalize hC : w.heap.size = C at hh ⊢
  replace hC : Hid (w.heap.size = C) := hC
  obtain ⟨l0, l1, l2, l3, l4, l5⟩ := hh.cells
  go_upto_region 4 with (go_at_call 22; with_reducible refine (c22 _).mono ?_; rintro e w1 ⟨B, rfl, hk, hB, b⟩; replace bel := seq_below bel b; replace hh := hh.below b; clear b l0 l1 l2 l3 l4 l5; obtain ⟨l0, l1, l2, l3, l4, l5⟩ := hh.cells)
  clear c22 hB
  go_wp2_with (first
    | (go_at_call 23; with_reducible refine (cR _).mono ?_; rintro e w1 ⟨rfl, b⟩; replace bel := seq_below bel b; replace hh := hh.below b; replace hk := hk.below b; clear b l0 l1 l2 l3 l4 l5; obtain ⟨l0, l1, l2, l3, l4, l5⟩ := hh.cells)
    | (go_at_call 24; with_reducible refine (_cM _).mono ?_; rintro e w1 ⟨rfl, b⟩; replace bel := seq_below bel b; replace hh := hh.below b; replace hk := hk.below b; clear b l0 l1 l2 l3 l4 l5; obtain ⟨l0, l1, l2, l3, l4, l5⟩ := hh.cells)
    | (go_at_call 12; with_reducible refine (n12 _).mono ?_; rintro e w1 ⟨rfl, rfl⟩)
    | (go_at_call 21; with_reducible refine (n21 _).mono ?_; rintro e w1 ⟨rfl, rfl⟩)
    | (go_at_call 17; with_reducible refine (n17 _).mono ?_; rintro e w1 ⟨rfl, rfl⟩)
    | (go_at_call 19; with_reducible refine (n19 _).mono ?_; rintro e w1 ⟨rfl, rfl⟩)
    | (go_at_call 25; with_reducible refine (n25 _).mono ?_; rintro e w1 ⟨rfl, rfl⟩)
    | (go_at_call 11; with_reducible refine (c11 B _).mono ?_; rintro e w1 ⟨P11, rfl, b⟩; replace bel := seq_below bel b; replace hh := hh.below b; replace hk := hk.below b; clear b l0 l1 l2 l3 l4 l5; obtain ⟨l0, l1, l2, l3, l4, l5⟩ := hh.cells)
    | (go_at_call 20; with_reducible refine (c20 B _).mono ?_; rintro e w1 ⟨P20, rfl, b⟩; replace bel := seq_below bel b; replace hh := hh.below b; replace hk := hk.below b; clear b l0 l1 l2 l3 l4 l5; obtain ⟨l0, l1, l2, l3, l4, l5⟩ := hh.cells)
    | (go_at_call 16; with_reducible refine (c16 B _).mono ?_; rintro e w1 ⟨rfl, b⟩; replace bel := seq_below bel b; replace hh := hh.below b; replace hk := hk.below b; clear b l0 l1 l2 l3 l4 l5; obtain ⟨l0, l1, l2, l3, l4, l5⟩ := hh.cells)
    | (go_at_call 26; with_reducible refine (c26 B _).mono ?_; rintro e w1 ⟨rfl, b⟩; replace bel := seq_below bel b; replace hh := hh.below b; replace hk := hk.below b; clear b l0 l1 l2 l3 l4 l5; obtain ⟨l0, l1, l2, l3, l4, l5⟩ := hh.cells)
    | (go_at_call 18; with_reducible refine (c18 B _).mono ?_; rintro e w1 ⟨P18, rfl, b⟩; replace bel := seq_below bel b; replace hh := hh.below b; replace hk := hk.below b; clear b l0 l1 l2 l3 l4 l5; obtain ⟨l0, l1, l2, l3, l4, l5⟩ := hh.cells)
    | (go_at_call 27; with_reducible refine (c27 _ _ hk).mono ?_; rintro e w1 ⟨rfl, rfl⟩)
    | (go_at_call 28; with_reducible refine (c28 _ _ hk).mono ?_; rintro e w1 ⟨rfl, rfl⟩)
    | (go_at_call 7; refine (awake_any (hw.below bel)).mono ?_; rintro e w1 ⟨rfl, b⟩; replace bel := seq_below bel b))
  go_ret
  refine ⟨?_, bel⟩
  first
    | rfl
    | (show Ending.returned (Value.bool (!decide (rc < s))) = _; rw [decide_eq_false (by omega)]; rfl)
set_option maxRecDepth 100000 in
set_option maxHeartbeats 4000000 in
theorem none_n1_y {s a c d g k node i rc : Int} {w : World} (hw : WT w) (_hrc : (Lit.int .i64 rc).wf = true) (w0 : 0 ≤ node) (w1 : ¬ node < s) (s0 : 0 ≤ rc) (s1 : rc < s)
    (cR : ∀ w, Calls Tryd.prog 23 #[.agg #[.int .i64 s, .int .i64 a, .int .i64 c, .int .i64 d, .int .i64 g, .int .i64 k]] w fun e w' => e = .returned (.bool true) ∧ Below w.heap.size w w')
    (_cM : ∀ w, Calls Tryd.prog 24 #[.agg #[.int .i64 s, .int .i64 a, .int .i64 c, .int .i64 d, .int .i64 g, .int .i64 k]] w fun e w' => e = .returned (.int .i64 (bsI a)) ∧ Below w.heap.size w w')
    (c11 : ∀ (B : Nat) (w : World), Calls Tryd.prog 11 #[.agg #[.int .i64 s, .int .i64 a, .int .i64 c, .int .i64 d, .int .i64 g, .int .i64 k], .int .i64 node, .int .i64 i, .pointer (some ⟨B, 0, none⟩)] w fun e w' => e = .returned (.pointer none) ∧ Below w.heap.size w w')
    (c20 : ∀ (B : Nat) (w : World), Calls Tryd.prog 20 #[.agg #[.int .i64 s, .int .i64 a, .int .i64 c, .int .i64 d, .int .i64 g, .int .i64 k], .int .i64 node, .int .i64 i, .int .u64 3, .pointer (some ⟨B, 0, none⟩)] w fun e w' => e = .returned (.pointer none) ∧ Below w.heap.size w w')
    (c16 : ∀ (B : Nat) (w : World), Calls Tryd.prog 16 #[.agg #[.int .i64 s, .int .i64 a, .int .i64 c, .int .i64 d, .int .i64 g, .int .i64 k], .int .i64 node, .int .i64 i, .int .i64 rc, .int .i64 (-2), .int .u64 0, .pointer (some ⟨B, 0, none⟩)] w fun e w' => e = .returned (.pointer none) ∧ Below w.heap.size w w')
    (c26 : ∀ (B : Nat) (w : World), Calls Tryd.prog 26 #[.agg #[.int .i64 s, .int .i64 a, .int .i64 c, .int .i64 d, .int .i64 g, .int .i64 k], .int .i64 rc, .pointer (some ⟨B, 0, none⟩)] w fun e w' => ∃ P, e = .returned (.pointer (some ⟨P, 0, none⟩)) ∧ Below w.heap.size w w')
    (c18 : ∀ (B : Nat) (w : World), Calls Tryd.prog 18 #[.agg #[.int .i64 s, .int .i64 a, .int .i64 c, .int .i64 d, .int .i64 g, .int .i64 k], .pointer (some ⟨B, 0, none⟩)] w fun e w' => ∃ P, e = .returned (.pointer (some ⟨P, 0, none⟩)) ∧ Below w.heap.size w w') :
    Calls Tryd.prog 6 #[.agg #[.int .i64 s, .int .i64 a, .int .i64 c, .int .i64 d, .int .i64 g, .int .i64 k], .int .i64 node, .int .i64 i, .int .i64 rc, .bool true] w fun e w' => e = .returned (.bool true) ∧ Below w.heap.size w w' := by
  have n12 := rd_nil (.pointer none)
  have n21 := se_nil (.pointer none)
  have n17 := la_nil (.pointer none)
  have n19 := tu_nil (.pointer none)
  have n25 := sm_nil (.pointer none)
  have bel := alloc_below w (.cells #[.int .i64 s, .int .i64 a, .int .i64 c, .int .i64 d, .int .i64 g, .int .i64 k] 42)
  have hh := cfg_new w s a c d g k
  have c22 := fun w => newBook_any w 0
  have c27 : ∀ wr B, IsBook wr 0 B 0 bk0 (.map none) (.map none) → Calls Tryd.prog 27 #[.pointer (some ⟨B, 0, none⟩), .int .i64 rc] wr fun e w' => e = .returned (.int .i64 (-1)) ∧ wr = w' := fun wr B h => born_any h rc _hrc
  have c28 : ∀ wr B, IsBook wr 0 B 0 bk0 (.map none) (.map none) → Calls Tryd.prog 28 #[.pointer (some ⟨B, 0, none⟩), .int .u64 3] wr fun e w' => e = .returned (.int .i64 (-1)) ∧ wr = w' := fun wr B h => turned_any h 3 (by decide)
  go_enter Tryd.func6, Tryd.ntmps6
  go_upto_region 1 with fail
  generalize w.alloc (.cells #[.int .i64 s, .int .i64 a, .int .i64 c, .int .i64 d, .int .i64 g, .int .i64 k] 42) = w0 at *
  generalize hC : w.heap.size = C at hh ⊢
  replace hC : Hid (w.heap.size = C) := hC
  obtain ⟨l0, l1, l2, l3, l4, l5⟩ := hh.cells
  go_upto_region 4 with (go_at_call 22; with_reducible refine (c22 _).mono ?_; rintro e w1 ⟨B, rfl, hk, hB, b⟩; replace bel := seq_below bel b; replace hh := hh.below b; clear b l0 l1 l2 l3 l4 l5; obtain ⟨l0, l1, l2, l3, l4, l5⟩ := hh.cells)
  clear c22 hB
  go_wp2_with (first
    | (go_at_call 23; with_reducible refine (cR _).mono ?_; rintro e w1 ⟨rfl, b⟩; replace bel := seq_below bel b; replace hh := hh.below b; replace hk := hk.below b; clear b l0 l1 l2 l3 l4 l5; obtain ⟨l0, l1, l2, l3, l4, l5⟩ := hh.cells)
    | (go_at_call 24; with_reducible refine (_cM _).mono ?_; rintro e w1 ⟨rfl, b⟩; replace bel := seq_below bel b; replace hh := hh.below b; replace hk := hk.below b; clear b l0 l1 l2 l3 l4 l5; obtain ⟨l0, l1, l2, l3, l4, l5⟩ := hh.cells)
    | (go_at_call 12; with_reducible refine (n12 _).mono ?_; rintro e w1 ⟨rfl, rfl⟩)
    | (go_at_call 21; with_reducible refine (n21 _).mono ?_; rintro e w1 ⟨rfl, rfl⟩)
    | (go_at_call 17; with_reducible refine (n17 _).mono ?_; rintro e w1 ⟨rfl, rfl⟩)
    | (go_at_call 19; with_reducible refine (n19 _).mono ?_; rintro e w1 ⟨rfl, rfl⟩)
    | (go_at_call 25; with_reducible refine (n25 _).mono ?_; rintro e w1 ⟨rfl, rfl⟩)
    | (go_at_call 11; with_reducible refine (c11 B _).mono ?_; rintro e w1 ⟨rfl, b⟩; replace bel := seq_below bel b; replace hh := hh.below b; replace hk := hk.below b; clear b l0 l1 l2 l3 l4 l5; obtain ⟨l0, l1, l2, l3, l4, l5⟩ := hh.cells)
    | (go_at_call 20; with_reducible refine (c20 B _).mono ?_; rintro e w1 ⟨rfl, b⟩; replace bel := seq_below bel b; replace hh := hh.below b; replace hk := hk.below b; clear b l0 l1 l2 l3 l4 l5; obtain ⟨l0, l1, l2, l3, l4, l5⟩ := hh.cells)
    | (go_at_call 16; with_reducible refine (c16 B _).mono ?_; rintro e w1 ⟨rfl, b⟩; replace bel := seq_below bel b; replace hh := hh.below b; replace hk := hk.below b; clear b l0 l1 l2 l3 l4 l5; obtain ⟨l0, l1, l2, l3, l4, l5⟩ := hh.cells)
    | (go_at_call 26; with_reducible refine (c26 B _).mono ?_; rintro e w1 ⟨P26, rfl, b⟩; replace bel := seq_below bel b; replace hh := hh.below b; replace hk := hk.below b; clear b l0 l1 l2 l3 l4 l5; obtain ⟨l0, l1, l2, l3, l4, l5⟩ := hh.cells)
    | (go_at_call 18; with_reducible refine (c18 B _).mono ?_; rintro e w1 ⟨P18, rfl, b⟩; replace bel := seq_below bel b; replace hh := hh.below b; replace hk := hk.below b; clear b l0 l1 l2 l3 l4 l5; obtain ⟨l0, l1, l2, l3, l4, l5⟩ := hh.cells)
    | (go_at_call 27; with_reducible refine (c27 _ _ hk).mono ?_; rintro e w1 ⟨rfl, rfl⟩)
    | (go_at_call 28; with_reducible refine (c28 _ _ hk).mono ?_; rintro e w1 ⟨rfl, rfl⟩)
    | (go_at_call 7; refine (awake_any (hw.below bel)).mono ?_; rintro e w1 ⟨rfl, b⟩; replace bel := seq_below bel b))
  go_ret
  exact ⟨rfl, bel⟩
set_option maxRecDepth 100000 in
set_option maxHeartbeats 4000000 in
theorem none_n2_n0 {s a c d g k node i rc : Int} {w : World} (hw : WT w) (_hrc : (Lit.int .i64 rc).wf = true) (w0 : 0 ≤ node) (w1 : node < s) (w2 : ¬ 0 ≤ i) (s0 : ¬ 0 ≤ rc)
    (cR : ∀ w, Calls Tryd.prog 23 #[.agg #[.int .i64 s, .int .i64 a, .int .i64 c, .int .i64 d, .int .i64 g, .int .i64 k]] w fun e w' => e = .returned (.bool true) ∧ Below w.heap.size w w')
    (_cM : ∀ w, Calls Tryd.prog 24 #[.agg #[.int .i64 s, .int .i64 a, .int .i64 c, .int .i64 d, .int .i64 g, .int .i64 k]] w fun e w' => e = .returned (.int .i64 (bsI a)) ∧ Below w.heap.size w w')
    (c11 : ∀ (B : Nat) (w : World), Calls Tryd.prog 11 #[.agg #[.int .i64 s, .int .i64 a, .int .i64 c, .int .i64 d, .int .i64 g, .int .i64 k], .int .i64 node, .int .i64 i, .pointer (some ⟨B, 0, none⟩)] w fun e w' => e = .returned (.pointer none) ∧ Below w.heap.size w w')
    (c20 : ∀ (B : Nat) (w : World), Calls Tryd.prog 20 #[.agg #[.int .i64 s, .int .i64 a, .int .i64 c, .int .i64 d, .int .i64 g, .int .i64 k], .int .i64 node, .int .i64 i, .int .u64 3, .pointer (some ⟨B, 0, none⟩)] w fun e w' => e = .returned (.pointer none) ∧ Below w.heap.size w w')
    (c16 : ∀ (B : Nat) (w : World), Calls Tryd.prog 16 #[.agg #[.int .i64 s, .int .i64 a, .int .i64 c, .int .i64 d, .int .i64 g, .int .i64 k], .int .i64 node, .int .i64 i, .int .i64 rc, .int .i64 (-2), .int .u64 0, .pointer (some ⟨B, 0, none⟩)] w fun e w' => e = .returned (.pointer none) ∧ Below w.heap.size w w')
    (c26 : ∀ (B : Nat) (w : World), Calls Tryd.prog 26 #[.agg #[.int .i64 s, .int .i64 a, .int .i64 c, .int .i64 d, .int .i64 g, .int .i64 k], .int .i64 rc, .pointer (some ⟨B, 0, none⟩)] w fun e w' => e = .returned (.pointer none) ∧ Below w.heap.size w w')
    (c18 : ∀ (B : Nat) (w : World), Calls Tryd.prog 18 #[.agg #[.int .i64 s, .int .i64 a, .int .i64 c, .int .i64 d, .int .i64 g, .int .i64 k], .pointer (some ⟨B, 0, none⟩)] w fun e w' => ∃ P, e = .returned (.pointer (some ⟨P, 0, none⟩)) ∧ Below w.heap.size w w') :
    Calls Tryd.prog 6 #[.agg #[.int .i64 s, .int .i64 a, .int .i64 c, .int .i64 d, .int .i64 g, .int .i64 k], .int .i64 node, .int .i64 i, .int .i64 rc, .bool true] w fun e w' => e = .returned (.bool true) ∧ Below w.heap.size w w' := by
  have n12 := rd_nil (.pointer none)
  have n21 := se_nil (.pointer none)
  have n17 := la_nil (.pointer none)
  have n19 := tu_nil (.pointer none)
  have n25 := sm_nil (.pointer none)
  have bel := alloc_below w (.cells #[.int .i64 s, .int .i64 a, .int .i64 c, .int .i64 d, .int .i64 g, .int .i64 k] 42)
  have hh := cfg_new w s a c d g k
  have c22 := fun w => newBook_any w 0
  have c27 : ∀ wr B, IsBook wr 0 B 0 bk0 (.map none) (.map none) → Calls Tryd.prog 27 #[.pointer (some ⟨B, 0, none⟩), .int .i64 rc] wr fun e w' => e = .returned (.int .i64 (-1)) ∧ wr = w' := fun wr B h => born_any h rc _hrc
  have c28 : ∀ wr B, IsBook wr 0 B 0 bk0 (.map none) (.map none) → Calls Tryd.prog 28 #[.pointer (some ⟨B, 0, none⟩), .int .u64 3] wr fun e w' => e = .returned (.int .i64 (-1)) ∧ wr = w' := fun wr B h => turned_any h 3 (by decide)
  go_enter Tryd.func6, Tryd.ntmps6
  go_upto_region 1 with fail
  generalize w.alloc (.cells #[.int .i64 s, .int .i64 a, .int .i64 c, .int .i64 d, .int .i64 g, .int .i64 k] 42) = w0 at *
  generalize hC : w.heap.size = C at hh ⊢
  replace hC : Hid (w.heap.size = C) := hC
  obtain ⟨l0, l1, l2, l3, l4, l5⟩ := hh.cells
  go_upto_region 4 with (go_at_call 22; with_reducible refine (c22 _).mono ?_; rintro e w1 ⟨B, rfl, hk, hB, b⟩; replace bel := seq_below bel b; replace hh := hh.below b; clear b l0 l1 l2 l3 l4 l5; obtain ⟨l0, l1, l2, l3, l4, l5⟩ := hh.cells)
  clear c22 hB
  go_wp2_with (first
    | (go_at_call 23; with_reducible refine (cR _).mono ?_; rintro e w1 ⟨rfl, b⟩; replace bel := seq_below bel b; replace hh := hh.below b; replace hk := hk.below b; clear b l0 l1 l2 l3 l4 l5; obtain ⟨l0, l1, l2, l3, l4, l5⟩ := hh.cells)
    | (go_at_call 24; with_reducible refine (_cM _).mono ?_; rintro e w1 ⟨rfl, b⟩; replace bel := seq_below bel b; replace hh := hh.below b; replace hk := hk.below b; clear b l0 l1 l2 l3 l4 l5; obtain ⟨l0, l1, l2, l3, l4, l5⟩ := hh.cells)
    | (go_at_call 12; with_reducible refine (n12 _).mono ?_; rintro e w1 ⟨rfl, rfl⟩)
    | (go_at_call 21; with_reducible refine (n21 _).mono ?_; rintro e w1 ⟨rfl, rfl⟩)
    | (go_at_call 17; with_reducible refine (n17 _).mono ?_; rintro e w1 ⟨rfl, rfl⟩)
    | (go_at_call 19; with_reducible refine (n19 _).mono ?_; rintro e w1 ⟨rfl, rfl⟩)
    | (go_at_call 25; with_reducible refine (n25 _).mono ?_; rintro e w1 ⟨rfl, rfl⟩)
    | (go_at_call 11; with_reducible refine (c11 B _).mono ?_; rintro e w1 ⟨rfl, b⟩; replace bel := seq_below bel b; replace hh := hh.below b; replace hk := hk.below b; clear b l0 l1 l2 l3 l4 l5; obtain ⟨l0, l1, l2, l3, l4, l5⟩ := hh.cells)
    | (go_at_call 20; with_reducible refine (c20 B _).mono ?_; rintro e w1 ⟨rfl, b⟩; replace bel := seq_below bel b; replace hh := hh.below b; replace hk := hk.below b; clear b l0 l1 l2 l3 l4 l5; obtain ⟨l0, l1, l2, l3, l4, l5⟩ := hh.cells)
    | (go_at_call 16; with_reducible refine (c16 B _).mono ?_; rintro e w1 ⟨rfl, b⟩; replace bel := seq_below bel b; replace hh := hh.below b; replace hk := hk.below b; clear b l0 l1 l2 l3 l4 l5; obtain ⟨l0, l1, l2, l3, l4, l5⟩ := hh.cells)
    | (go_at_call 26; with_reducible refine (c26 B _).mono ?_; rintro e w1 ⟨rfl, b⟩; replace bel := seq_below bel b; replace hh := hh.below b; replace hk := hk.below b; clear b l0 l1 l2 l3 l4 l5; obtain ⟨l0, l1, l2, l3, l4, l5⟩ := hh.cells)
    | (go_at_call 18; with_reducible refine (c18 B _).mono ?_; rintro e w1 ⟨P18, rfl, b⟩; replace bel := seq_below bel b; replace hh := hh.below b; replace hk := hk.below b; clear b l0 l1 l2 l3 l4 l5; obtain ⟨l0, l1, l2, l3, l4, l5⟩ := hh.cells)
    | (go_at_call 27; with_reducible refine (c27 _ _ hk).mono ?_; rintro e w1 ⟨rfl, rfl⟩)
    | (go_at_call 28; with_reducible refine (c28 _ _ hk).mono ?_; rintro e w1 ⟨rfl, rfl⟩)
    | (go_at_call 7; refine (awake_any (hw.below bel)).mono ?_; rintro e w1 ⟨rfl, b⟩; replace bel := seq_below bel b))
  go_ret
  exact ⟨rfl, bel⟩
set_option maxRecDepth 100000 in
set_option maxHeartbeats 4000000 in
theorem none_n3_n1 {s a c d g k node i rc : Int} {w : World} (hw : WT w) (_hrc : (Lit.int .i64 rc).wf = true) (w0 : 0 ≤ node) (w1 : node < s) (w2 : 0 ≤ i) (w3 : ¬ i < bsI a) (s0 : 0 ≤ rc) (s1 : ¬ rc < s)
    (cR : ∀ w, Calls Tryd.prog 23 #[.agg #[.int .i64 s, .int .i64 a, .int .i64 c, .int .i64 d, .int .i64 g, .int .i64 k]] w fun e w' => e = .returned (.bool true) ∧ Below w.heap.size w w')
    (_cM : ∀ w, Calls Tryd.prog 24 #[.agg #[.int .i64 s, .int .i64 a, .int .i64 c, .int .i64 d, .int .i64 g, .int .i64 k]] w fun e w' => e = .returned (.int .i64 (bsI a)) ∧ Below w.heap.size w w')
    (c11 : ∀ (B : Nat) (w : World), Calls Tryd.prog 11 #[.agg #[.int .i64 s, .int .i64 a, .int .i64 c, .int .i64 d, .int .i64 g, .int .i64 k], .int .i64 node, .int .i64 i, .pointer (some ⟨B, 0, none⟩)] w fun e w' => e = .returned (.pointer none) ∧ Below w.heap.size w w')
    (c20 : ∀ (B : Nat) (w : World), Calls Tryd.prog 20 #[.agg #[.int .i64 s, .int .i64 a, .int .i64 c, .int .i64 d, .int .i64 g, .int .i64 k], .int .i64 node, .int .i64 i, .int .u64 3, .pointer (some ⟨B, 0, none⟩)] w fun e w' => e = .returned (.pointer none) ∧ Below w.heap.size w w')
    (c16 : ∀ (B : Nat) (w : World), Calls Tryd.prog 16 #[.agg #[.int .i64 s, .int .i64 a, .int .i64 c, .int .i64 d, .int .i64 g, .int .i64 k], .int .i64 node, .int .i64 i, .int .i64 rc, .int .i64 (-2), .int .u64 0, .pointer (some ⟨B, 0, none⟩)] w fun e w' => e = .returned (.pointer none) ∧ Below w.heap.size w w')
    (c26 : ∀ (B : Nat) (w : World), Calls Tryd.prog 26 #[.agg #[.int .i64 s, .int .i64 a, .int .i64 c, .int .i64 d, .int .i64 g, .int .i64 k], .int .i64 rc, .pointer (some ⟨B, 0, none⟩)] w fun e w' => e = .returned (.pointer none) ∧ Below w.heap.size w w')
    (c18 : ∀ (B : Nat) (w : World), Calls Tryd.prog 18 #[.agg #[.int .i64 s, .int .i64 a, .int .i64 c, .int .i64 d, .int .i64 g, .int .i64 k], .pointer (some ⟨B, 0, none⟩)] w fun e w' => ∃ P, e = .returned (.pointer (some ⟨P, 0, none⟩)) ∧ Below w.heap.size w w') :
    Calls Tryd.prog 6 #[.agg #[.int .i64 s, .int .i64 a, .int .i64 c, .int .i64 d, .int .i64 g, .int .i64 k], .int .i64 node, .int .i64 i, .int .i64 rc, .bool true] w fun e w' => e = .returned (.bool true) ∧ Below w.heap.size w w' := by
  have n12 := rd_nil (.pointer none)
  have n21 := se_nil (.pointer none)
  have n17 := la_nil (.pointer none)
  have n19 := tu_nil (.pointer none)
  have n25 := sm_nil (.pointer none)
  have bel := alloc_below w (.cells #[.int .i64 s, .int .i64 a, .int .i64 c, .int .i64 d, .int .i64 g, .int .i64 k] 42)
  have hh := cfg_new w s a c d g k
  have c22 := fun w => newBook_any w 0
  have c27 : ∀ wr B, IsBook wr 0 B 0 bk0 (.map none) (.map none) → Calls Tryd.prog 27 #[.pointer (some ⟨B, 0, none⟩), .int .i64 rc] wr fun e w' => e = .returned (.int .i64 (-1)) ∧ wr = w' := fun wr B h => born_any h rc _hrc
  have c28 : ∀ wr B, IsBook wr 0 B 0 bk0 (.map none) (.map none) → Calls Tryd.prog 28 #[.pointer (some ⟨B, 0, none⟩), .int .u64 3] wr fun e w' => e = .returned (.int .i64 (-1)) ∧ wr = w' := fun wr B h => turned_any h 3 (by decide)
  go_enter Tryd.func6, Tryd.ntmps6
  go_upto_region 1 with fail
  generalize w.alloc (.cells #[.int .i64 s, .int .i64 a, .int .i64 c, .int .i64 d, .int .i64 g, .int .i64 k] 42) = w0 at *
  generalize hC : w.heap.size = C at hh ⊢
  replace hC : Hid (w.heap.size = C) := hC
  obtain ⟨l0, l1, l2, l3, l4, l5⟩ := hh.cells
  go_upto_region 4 with (go_at_call 22; with_reducible refine (c22 _).mono ?_; rintro e w1 ⟨B, rfl, hk, hB, b⟩; replace bel := seq_below bel b; replace hh := hh.below b; clear b l0 l1 l2 l3 l4 l5; obtain ⟨l0, l1, l2, l3, l4, l5⟩ := hh.cells)
  clear c22 hB
  go_wp2_with (first
    | (go_at_call 23; with_reducible refine (cR _).mono ?_; rintro e w1 ⟨rfl, b⟩; replace bel := seq_below bel b; replace hh := hh.below b; replace hk := hk.below b; clear b l0 l1 l2 l3 l4 l5; obtain ⟨l0, l1, l2, l3, l4, l5⟩ := hh.cells)
    | (go_at_call 24; with_reducible refine (_cM _).mono ?_; rintro e w1 ⟨rfl, b⟩; replace bel := seq_below bel b; replace hh := hh.below b; replace hk := hk.below b; clear b l0 l1 l2 l3 l4 l5; obtain ⟨l0, l1, l2, l3, l4, l5⟩ := hh.cells)
    | (go_at_call 12; with_reducible refine (n12 _).mono ?_; rintro e w1 ⟨rfl, rfl⟩)
    | (go_at_call 21; with_reducible refine (n21 _).mono ?_; rintro e w1 ⟨rfl, rfl⟩)
    | (go_at_call 17; with_reducible refine (n17 _).mono ?_; rintro e w1 ⟨rfl, rfl⟩)
    | (go_at_call 19; with_reducible refine (n19 _).mono ?_; rintro e w1 ⟨rfl, rfl⟩)
    | (go_at_call 25; with_reducible refine (n25 _).mono ?_; rintro e w1 ⟨rfl, rfl⟩)
    | (go_at_call 11; with_reducible refine (c11 B _).mono ?_; rintro e w1 ⟨rfl, b⟩; replace bel := seq_below bel b; replace hh := hh.below b; replace hk := hk.below b; clear b l0 l1 l2 l3 l4 l5; obtain ⟨l0, l1, l2, l3, l4, l5⟩ := hh.cells)
    | (go_at_call 20; with_reducible refine (c20 B _).mono ?_; rintro e w1 ⟨rfl, b⟩; replace bel := seq_below bel b; replace hh := hh.below b; replace hk := hk.below b; clear b l0 l1 l2 l3 l4 l5; obtain ⟨l0, l1, l2, l3, l4, l5⟩ := hh.cells)
    | (go_at_call 16; with_reducible refine (c16 B _).mono ?_; rintro e w1 ⟨rfl, b⟩; replace bel := seq_below bel b; replace hh := hh.below b; replace hk := hk.below b; clear b l0 l1 l2 l3 l4 l5; obtain ⟨l0, l1, l2, l3, l4, l5⟩ := hh.cells)
    | (go_at_call 26; with_reducible refine (c26 B _).mono ?_; rintro e w1 ⟨rfl, b⟩; replace bel := seq_below bel b; replace hh := hh.below b; replace hk := hk.below b; clear b l0 l1 l2 l3 l4 l5; obtain ⟨l0, l1, l2, l3, l4, l5⟩ := hh.cells)
    | (go_at_call 18; with_reducible refine (c18 B _).mono ?_; rintro e w1 ⟨P18, rfl, b⟩; replace bel := seq_below bel b; replace hh := hh.below b; replace hk := hk.below b; clear b l0 l1 l2 l3 l4 l5; obtain ⟨l0, l1, l2, l3, l4, l5⟩ := hh.cells)
    | (go_at_call 27; with_reducible refine (c27 _ _ hk).mono ?_; rintro e w1 ⟨rfl, rfl⟩)
    | (go_at_call 28; with_reducible refine (c28 _ _ hk).mono ?_; rintro e w1 ⟨rfl, rfl⟩)
    | (go_at_call 7; refine (awake_any (hw.below bel)).mono ?_; rintro e w1 ⟨rfl, b⟩; replace bel := seq_below bel b))
  go_ret
  refine ⟨?_, bel⟩
  first
    | rfl
    | (show Ending.returned (Value.bool (!decide (rc < s))) = _; rw [decide_eq_false (by omega)]; rfl)
end Go.Proofs.YtnegdabcjnhpdaaDoor
/- The law of no machine: its walk, case by case, over the callees' contracts. -/
namespace Go.Proofs.YtnegdabcjnhpdaaDoor
open Go.RowKit
open Mm (IsMem MS touched Only)
open Hh (WT)
set_option maxRecDepth 100000 in
set_option maxHeartbeats 4000000 in
theorem none_10 {s a c d g k node i rc : Int} {w : World} (hw : WT w) (_hrc : (Lit.int .i64 rc).wf = true) 
    (cR : ∀ w, Calls Tryd.prog 23 #[.agg #[.int .i64 s, .int .i64 a, .int .i64 c, .int .i64 d, .int .i64 g, .int .i64 k]] w fun e w' => e = .returned (.bool true) ∧ Below w.heap.size w w')
    (_cM : ∀ w, Calls Tryd.prog 24 #[.agg #[.int .i64 s, .int .i64 a, .int .i64 c, .int .i64 d, .int .i64 g, .int .i64 k]] w fun e w' => e = .returned (.int .i64 (bsI a)) ∧ Below w.heap.size w w')
    (c11 : ∀ w, Calls Tryd.prog 11 #[.agg #[.int .i64 s, .int .i64 a, .int .i64 c, .int .i64 d, .int .i64 g, .int .i64 k], .int .i64 node, .int .i64 i, .pointer none] w fun e w' => e = .returned (.pointer none) ∧ Below w.heap.size w w')
    (c20 : ∀ w, Calls Tryd.prog 20 #[.agg #[.int .i64 s, .int .i64 a, .int .i64 c, .int .i64 d, .int .i64 g, .int .i64 k], .int .i64 node, .int .i64 i, .int .u64 3, .pointer none] w fun e w' => e = .returned (.pointer none) ∧ Below w.heap.size w w')
    (c16 : ∀ w, Calls Tryd.prog 16 #[.agg #[.int .i64 s, .int .i64 a, .int .i64 c, .int .i64 d, .int .i64 g, .int .i64 k], .int .i64 node, .int .i64 i, .int .i64 rc, .int .i64 (-2), .int .u64 0, .pointer none] w fun e w' => e = .returned (.pointer none) ∧ Below w.heap.size w w')
    (c26 : ∀ w, Calls Tryd.prog 26 #[.agg #[.int .i64 s, .int .i64 a, .int .i64 c, .int .i64 d, .int .i64 g, .int .i64 k], .int .i64 rc, .pointer none] w fun e w' => e = .returned (.pointer none) ∧ Below w.heap.size w w')
    (c18 : ∀ w, Calls Tryd.prog 18 #[.agg #[.int .i64 s, .int .i64 a, .int .i64 c, .int .i64 d, .int .i64 g, .int .i64 k], .pointer none] w fun e w' => e = .returned (.pointer none) ∧ Below w.heap.size w w') :
    Calls Tryd.prog 6 #[.agg #[.int .i64 s, .int .i64 a, .int .i64 c, .int .i64 d, .int .i64 g, .int .i64 k], .int .i64 node, .int .i64 i, .int .i64 rc, .bool false] w fun e w' => e = .returned (.bool true) ∧ Below w.heap.size w w' := by
  have n12 := rd_nil (.pointer none)
  have n21 := se_nil (.pointer none)
  have n17 := la_nil (.pointer none)
  have n19 := tu_nil (.pointer none)
  have n25 := sm_nil (.pointer none)
  have bel := alloc_below w (.cells #[.int .i64 s, .int .i64 a, .int .i64 c, .int .i64 d, .int .i64 g, .int .i64 k] 42)
  have hh := cfg_new w s a c d g k
  have c27 := born_nil rc
  have c28 := turned_nil 3
  go_enter Tryd.func6, Tryd.ntmps6
  go_upto_region 1 with fail
  generalize w.alloc (.cells #[.int .i64 s, .int .i64 a, .int .i64 c, .int .i64 d, .int .i64 g, .int .i64 k] 42) = w0 at *
  generalize hC : w.heap.size = C at hh ⊢
  replace hC : Hid (w.heap.size = C) := hC
  obtain ⟨l0, l1, l2, l3, l4, l5⟩ := hh.cells
  go_wp2_with (first
    | (go_at_call 23; with_reducible refine (cR _).mono ?_; rintro e w1 ⟨rfl, b⟩; replace bel := seq_below bel b; replace hh := hh.below b; clear b l0 l1 l2 l3 l4 l5; obtain ⟨l0, l1, l2, l3, l4, l5⟩ := hh.cells)
    | (go_at_call 24; with_reducible refine (_cM _).mono ?_; rintro e w1 ⟨rfl, b⟩; replace bel := seq_below bel b; replace hh := hh.below b; clear b l0 l1 l2 l3 l4 l5; obtain ⟨l0, l1, l2, l3, l4, l5⟩ := hh.cells)
    | (go_at_call 12; with_reducible refine (n12 _).mono ?_; rintro e w1 ⟨rfl, rfl⟩)
    | (go_at_call 21; with_reducible refine (n21 _).mono ?_; rintro e w1 ⟨rfl, rfl⟩)
    | (go_at_call 17; with_reducible refine (n17 _).mono ?_; rintro e w1 ⟨rfl, rfl⟩)
    | (go_at_call 19; with_reducible refine (n19 _).mono ?_; rintro e w1 ⟨rfl, rfl⟩)
    | (go_at_call 25; with_reducible refine (n25 _).mono ?_; rintro e w1 ⟨rfl, rfl⟩)
    | (go_at_call 11; with_reducible refine (c11 _).mono ?_; rintro e w1 ⟨rfl, b⟩; replace bel := seq_below bel b; replace hh := hh.below b; clear b l0 l1 l2 l3 l4 l5; obtain ⟨l0, l1, l2, l3, l4, l5⟩ := hh.cells)
    | (go_at_call 20; with_reducible refine (c20 _).mono ?_; rintro e w1 ⟨rfl, b⟩; replace bel := seq_below bel b; replace hh := hh.below b; clear b l0 l1 l2 l3 l4 l5; obtain ⟨l0, l1, l2, l3, l4, l5⟩ := hh.cells)
    | (go_at_call 16; with_reducible refine (c16 _).mono ?_; rintro e w1 ⟨rfl, b⟩; replace bel := seq_below bel b; replace hh := hh.below b; clear b l0 l1 l2 l3 l4 l5; obtain ⟨l0, l1, l2, l3, l4, l5⟩ := hh.cells)
    | (go_at_call 26; with_reducible refine (c26 _).mono ?_; rintro e w1 ⟨rfl, b⟩; replace bel := seq_below bel b; replace hh := hh.below b; clear b l0 l1 l2 l3 l4 l5; obtain ⟨l0, l1, l2, l3, l4, l5⟩ := hh.cells)
    | (go_at_call 18; with_reducible refine (c18 _).mono ?_; rintro e w1 ⟨rfl, b⟩; replace bel := seq_below bel b; replace hh := hh.below b; clear b l0 l1 l2 l3 l4 l5; obtain ⟨l0, l1, l2, l3, l4, l5⟩ := hh.cells)
    | (go_at_call 27; with_reducible refine (c27 _).mono ?_; rintro e w1 ⟨rfl, rfl⟩)
    | (go_at_call 28; with_reducible refine (c28 _).mono ?_; rintro e w1 ⟨rfl, rfl⟩)
    | (go_at_call 7; refine (awake_any (hw.below bel)).mono ?_; rintro e w1 ⟨rfl, b⟩; replace bel := seq_below bel b))
  go_ret
  exact ⟨rfl, bel⟩
set_option maxRecDepth 100000 in
set_option maxHeartbeats 4000000 in
theorem none_n0_y {s a c d g k node i rc : Int} {w : World} (hw : WT w) (_hrc : (Lit.int .i64 rc).wf = true) (w0 : ¬ 0 ≤ node) (s0 : 0 ≤ rc) (s1 : rc < s)
    (cR : ∀ w, Calls Tryd.prog 23 #[.agg #[.int .i64 s, .int .i64 a, .int .i64 c, .int .i64 d, .int .i64 g, .int .i64 k]] w fun e w' => e = .returned (.bool true) ∧ Below w.heap.size w w')
    (_cM : ∀ w, Calls Tryd.prog 24 #[.agg #[.int .i64 s, .int .i64 a, .int .i64 c, .int .i64 d, .int .i64 g, .int .i64 k]] w fun e w' => e = .returned (.int .i64 (bsI a)) ∧ Below w.heap.size w w')
    (c11 : ∀ (B : Nat) (w : World), Calls Tryd.prog 11 #[.agg #[.int .i64 s, .int .i64 a, .int .i64 c, .int .i64 d, .int .i64 g, .int .i64 k], .int .i64 node, .int .i64 i, .pointer (some ⟨B, 0, none⟩)] w fun e w' => e = .returned (.pointer none) ∧ Below w.heap.size w w')
    (c20 : ∀ (B : Nat) (w : World), Calls Tryd.prog 20 #[.agg #[.int .i64 s, .int .i64 a, .int .i64 c, .int .i64 d, .int .i64 g, .int .i64 k], .int .i64 node, .int .i64 i, .int .u64 3, .pointer (some ⟨B, 0, none⟩)] w fun e w' => e = .returned (.pointer none) ∧ Below w.heap.size w w')
    (c16 : ∀ (B : Nat) (w : World), Calls Tryd.prog 16 #[.agg #[.int .i64 s, .int .i64 a, .int .i64 c, .int .i64 d, .int .i64 g, .int .i64 k], .int .i64 node, .int .i64 i, .int .i64 rc, .int .i64 (-2), .int .u64 0, .pointer (some ⟨B, 0, none⟩)] w fun e w' => e = .returned (.pointer none) ∧ Below w.heap.size w w')
    (c26 : ∀ (B : Nat) (w : World), Calls Tryd.prog 26 #[.agg #[.int .i64 s, .int .i64 a, .int .i64 c, .int .i64 d, .int .i64 g, .int .i64 k], .int .i64 rc, .pointer (some ⟨B, 0, none⟩)] w fun e w' => ∃ P, e = .returned (.pointer (some ⟨P, 0, none⟩)) ∧ Below w.heap.size w w')
    (c18 : ∀ (B : Nat) (w : World), Calls Tryd.prog 18 #[.agg #[.int .i64 s, .int .i64 a, .int .i64 c, .int .i64 d, .int .i64 g, .int .i64 k], .pointer (some ⟨B, 0, none⟩)] w fun e w' => ∃ P, e = .returned (.pointer (some ⟨P, 0, none⟩)) ∧ Below w.heap.size w w') :
    Calls Tryd.prog 6 #[.agg #[.int .i64 s, .int .i64 a, .int .i64 c, .int .i64 d, .int .i64 g, .int .i64 k], .int .i64 node, .int .i64 i, .int .i64 rc, .bool true] w fun e w' => e = .returned (.bool true) ∧ Below w.heap.size w w' := by
  have n12 := rd_nil (.pointer none)
  have n21 := se_nil (.pointer none)
  have n17 := la_nil (.pointer none)
  have n19 := tu_nil (.pointer none)
  have n25 := sm_nil (.pointer none)
  have bel := alloc_below w (.cells #[.int .i64 s, .int .i64 a, .int .i64 c, .int .i64 d, .int .i64 g, .int .i64 k] 42)
  have hh := cfg_new w s a c d g k
  have c22 := fun w => newBook_any w 0
  have c27 : ∀ wr B, IsBook wr 0 B 0 bk0 (.map none) (.map none) → Calls Tryd.prog 27 #[.pointer (some ⟨B, 0, none⟩), .int .i64 rc] wr fun e w' => e = .returned (.int .i64 (-1)) ∧ wr = w' := fun wr B h => born_any h rc _hrc
  have c28 : ∀ wr B, IsBook wr 0 B 0 bk0 (.map none) (.map none) → Calls Tryd.prog 28 #[.pointer (some ⟨B, 0, none⟩), .int .u64 3] wr fun e w' => e = .returned (.int .i64 (-1)) ∧ wr = w' := fun wr B h => turned_any h 3 (by decide)
  go_enter Tryd.func6, Tryd.ntmps6
  go_upto_region 1 with fail
  generalize w.alloc (.cells #[.int .i64 s, .int .i64 a, .int .i64 c, .int .i64 d, .int .i64 g, .int .i64 k] 42) = w0 at *
  generalize hC : w.heap.size = C at hh ⊢
  replace hC : Hid (w.heap.size = C) := hC
  obtain ⟨l0, l1, l2, l3, l4, l5⟩ := hh.cells
  go_upto_region 4 with (go_at_call 22; with_reducible refine (c22 _).mono ?_; rintro e w1 ⟨B, rfl, hk, hB, b⟩; replace bel := seq_below bel b; replace hh := hh.below b; clear b l0 l1 l2 l3 l4 l5; obtain ⟨l0, l1, l2, l3, l4, l5⟩ := hh.cells)
  clear c22 hB
  go_wp2_with (first
    | (go_at_call 23; with_reducible refine (cR _).mono ?_; rintro e w1 ⟨rfl, b⟩; replace bel := seq_below bel b; replace hh := hh.below b; replace hk := hk.below b; clear b l0 l1 l2 l3 l4 l5; obtain ⟨l0, l1, l2, l3, l4, l5⟩ := hh.cells)
    | (go_at_call 24; with_reducible refine (_cM _).mono ?_; rintro e w1 ⟨rfl, b⟩; replace bel := seq_below bel b; replace hh := hh.below b; replace hk := hk.below b; clear b l0 l1 l2 l3 l4 l5; obtain ⟨l0, l1, l2, l3, l4, l5⟩ := hh.cells)
    | (go_at_call 12; with_reducible refine (n12 _).mono ?_; rintro e w1 ⟨rfl, rfl⟩)
    | (go_at_call 21; with_reducible refine (n21 _).mono ?_; rintro e w1 ⟨rfl, rfl⟩)
    | (go_at_call 17; with_reducible refine (n17 _).mono ?_; rintro e w1 ⟨rfl, rfl⟩)
    | (go_at_call 19; with_reducible refine (n19 _).mono ?_; rintro e w1 ⟨rfl, rfl⟩)
    | (go_at_call 25; with_reducible refine (n25 _).mono ?_; rintro e w1 ⟨rfl, rfl⟩)
    | (go_at_call 11; with_reducible refine (c11 B _).mono ?_; rintro e w1 ⟨rfl, b⟩; replace bel := seq_below bel b; replace hh := hh.below b; replace hk := hk.below b; clear b l0 l1 l2 l3 l4 l5; obtain ⟨l0, l1, l2, l3, l4, l5⟩ := hh.cells)
    | (go_at_call 20; with_reducible refine (c20 B _).mono ?_; rintro e w1 ⟨rfl, b⟩; replace bel := seq_below bel b; replace hh := hh.below b; replace hk := hk.below b; clear b l0 l1 l2 l3 l4 l5; obtain ⟨l0, l1, l2, l3, l4, l5⟩ := hh.cells)
    | (go_at_call 16; with_reducible refine (c16 B _).mono ?_; rintro e w1 ⟨rfl, b⟩; replace bel := seq_below bel b; replace hh := hh.below b; replace hk := hk.below b; clear b l0 l1 l2 l3 l4 l5; obtain ⟨l0, l1, l2, l3, l4, l5⟩ := hh.cells)
    | (go_at_call 26; with_reducible refine (c26 B _).mono ?_; rintro e w1 ⟨P26, rfl, b⟩; replace bel := seq_below bel b; replace hh := hh.below b; replace hk := hk.below b; clear b l0 l1 l2 l3 l4 l5; obtain ⟨l0, l1, l2, l3, l4, l5⟩ := hh.cells)
    | (go_at_call 18; with_reducible refine (c18 B _).mono ?_; rintro e w1 ⟨P18, rfl, b⟩; replace bel := seq_below bel b; replace hh := hh.below b; replace hk := hk.below b; clear b l0 l1 l2 l3 l4 l5; obtain ⟨l0, l1, l2, l3, l4, l5⟩ := hh.cells)
    | (go_at_call 27; with_reducible refine (c27 _ _ hk).mono ?_; rintro e w1 ⟨rfl, rfl⟩)
    | (go_at_call 28; with_reducible refine (c28 _ _ hk).mono ?_; rintro e w1 ⟨rfl, rfl⟩)
    | (go_at_call 7; refine (awake_any (hw.below bel)).mono ?_; rintro e w1 ⟨rfl, b⟩; replace bel := seq_below bel b))
  go_ret
  exact ⟨rfl, bel⟩
set_option maxRecDepth 100000 in
set_option maxHeartbeats 4000000 in
theorem none_n1_n0 {s a c d g k node i rc : Int} {w : World} (hw : WT w) (_hrc : (Lit.int .i64 rc).wf = true) (w0 : 0 ≤ node) (w1 : ¬ node < s) (s0 : ¬ 0 ≤ rc)
    (cR : ∀ w, Calls Tryd.prog 23 #[.agg #[.int .i64 s, .int .i64 a, .int .i64 c, .int .i64 d, .int .i64 g, .int .i64 k]] w fun e w' => e = .returned (.bool true) ∧ Below w.heap.size w w')
    (_cM : ∀ w, Calls Tryd.prog 24 #[.agg #[.int .i64 s, .int .i64 a, .int .i64 c, .int .i64 d, .int .i64 g, .int .i64 k]] w fun e w' => e = .returned (.int .i64 (bsI a)) ∧ Below w.heap.size w w')
    (c11 : ∀ (B : Nat) (w : World), Calls Tryd.prog 11 #[.agg #[.int .i64 s, .int .i64 a, .int .i64 c, .int .i64 d, .int .i64 g, .int .i64 k], .int .i64 node, .int .i64 i, .pointer (some ⟨B, 0, none⟩)] w fun e w' => e = .returned (.pointer none) ∧ Below w.heap.size w w')
    (c20 : ∀ (B : Nat) (w : World), Calls Tryd.prog 20 #[.agg #[.int .i64 s, .int .i64 a, .int .i64 c, .int .i64 d, .int .i64 g, .int .i64 k], .int .i64 node, .int .i64 i, .int .u64 3, .pointer (some ⟨B, 0, none⟩)] w fun e w' => e = .returned (.pointer none) ∧ Below w.heap.size w w')
    (c16 : ∀ (B : Nat) (w : World), Calls Tryd.prog 16 #[.agg #[.int .i64 s, .int .i64 a, .int .i64 c, .int .i64 d, .int .i64 g, .int .i64 k], .int .i64 node, .int .i64 i, .int .i64 rc, .int .i64 (-2), .int .u64 0, .pointer (some ⟨B, 0, none⟩)] w fun e w' => e = .returned (.pointer none) ∧ Below w.heap.size w w')
    (c26 : ∀ (B : Nat) (w : World), Calls Tryd.prog 26 #[.agg #[.int .i64 s, .int .i64 a, .int .i64 c, .int .i64 d, .int .i64 g, .int .i64 k], .int .i64 rc, .pointer (some ⟨B, 0, none⟩)] w fun e w' => e = .returned (.pointer none) ∧ Below w.heap.size w w')
    (c18 : ∀ (B : Nat) (w : World), Calls Tryd.prog 18 #[.agg #[.int .i64 s, .int .i64 a, .int .i64 c, .int .i64 d, .int .i64 g, .int .i64 k], .pointer (some ⟨B, 0, none⟩)] w fun e w' => ∃ P, e = .returned (.pointer (some ⟨P, 0, none⟩)) ∧ Below w.heap.size w w') :
    Calls Tryd.prog 6 #[.agg #[.int .i64 s, .int .i64 a, .int .i64 c, .int .i64 d, .int .i64 g, .int .i64 k], .int .i64 node, .int .i64 i, .int .i64 rc, .bool true] w fun e w' => e = .returned (.bool true) ∧ Below w.heap.size w w' := by
  have n12 := rd_nil (.pointer none)
  have n21 := se_nil (.pointer none)
  have n17 := la_nil (.pointer none)
  have n19 := tu_nil (.pointer none)
  have n25 := sm_nil (.pointer none)
  have bel := alloc_below w (.cells #[.int .i64 s, .int .i64 a, .int .i64 c, .int .i64 d, .int .i64 g, .int .i64 k] 42)
  have hh := cfg_new w s a c d g k
  have c22 := fun w => newBook_any w 0
  have c27 : ∀ wr B, IsBook wr 0 B 0 bk0 (.map none) (.map none) → Calls Tryd.prog 27 #[.pointer (some ⟨B, 0, none⟩), .int .i64 rc] wr fun e w' => e = .returned (.int .i64 (-1)) ∧ wr = w' := fun wr B h => born_any h rc _hrc
  have c28 : ∀ wr B, IsBook wr 0 B 0 bk0 (.map none) (.map none) → Calls Tryd.prog 28 #[.pointer (some ⟨B, 0, none⟩), .int .u64 3] wr fun e w' => e = .returned (.int .i64 (-1)) ∧ wr = w' := fun wr B h => turned_any h 3 (by decide)
  go_enter Tryd.func6, Tryd.ntmps6
  go_upto_region 1 with fail
  generalize w.alloc (.cells #[.int .i64 s, .int .i64 a, .int .i64 c, .int .i64 d, .int .i64 g, .int .i64 k] 42) = w0 at *
  generalize hC : w.heap.size = C at hh ⊢
  replace hC : Hid (w.heap.size = C) := hC
  obtain ⟨l0, l1, l2, l3, l4, l5⟩ := hh.cells
  go_upto_region 4 with (go_at_call 22; with_reducible refine (c22 _).mono ?_; rintro e w1 ⟨B, rfl, hk, hB, b⟩; replace bel := seq_below bel b; replace hh := hh.below b; clear b l0 l1 l2 l3 l4 l5; obtain ⟨l0, l1, l2, l3, l4, l5⟩ := hh.cells)
  clear c22 hB
  go_wp2_with (first
    | (go_at_call 23; with_reducible refine (cR _).mono ?_; rintro e w1 ⟨rfl, b⟩; replace bel := seq_below bel b; replace hh := hh.below b; replace hk := hk.below b; clear b l0 l1 l2 l3 l4 l5; obtain ⟨l0, l1, l2, l3, l4, l5⟩ := hh.cells)
    | (go_at_call 24; with_reducible refine (_cM _).mono ?_; rintro e w1 ⟨rfl, b⟩; replace bel := seq_below bel b; replace hh := hh.below b; replace hk := hk.below b; clear b l0 l1 l2 l3 l4 l5; obtain ⟨l0, l1, l2, l3, l4, l5⟩ := hh.cells)
    | (go_at_call 12; with_reducible refine (n12 _).mono ?_; rintro e w1 ⟨rfl, rfl⟩)
    | (go_at_call 21; with_reducible refine (n21 _).mono ?_; rintro e w1 ⟨rfl, rfl⟩)
    | (go_at_call 17; with_reducible refine (n17 _).mono ?_; rintro e w1 ⟨rfl, rfl⟩)
    | (go_at_call 19; with_reducible refine (n19 _).mono ?_; rintro e w1 ⟨rfl, rfl⟩)
    | (go_at_call 25; with_reducible refine (n25 _).mono ?_; rintro e w1 ⟨rfl, rfl⟩)
    | (go_at_call 11; with_reducible refine (c11 B _).mono ?_; rintro e w1 ⟨rfl, b⟩; replace bel := seq_below bel b; replace hh := hh.below b; replace hk := hk.below b; clear b l0 l1 l2 l3 l4 l5; obtain ⟨l0, l1, l2, l3, l4, l5⟩ := hh.cells)
    | (go_at_call 20; with_reducible refine (c20 B _).mono ?_; rintro e w1 ⟨rfl, b⟩; replace bel := seq_below bel b; replace hh := hh.below b; replace hk := hk.below b; clear b l0 l1 l2 l3 l4 l5; obtain ⟨l0, l1, l2, l3, l4, l5⟩ := hh.cells)
    | (go_at_call 16; with_reducible refine (c16 B _).mono ?_; rintro e w1 ⟨rfl, b⟩; replace bel := seq_below bel b; replace hh := hh.below b; replace hk := hk.below b; clear b l0 l1 l2 l3 l4 l5; obtain ⟨l0, l1, l2, l3, l4, l5⟩ := hh.cells)
    | (go_at_call 26; with_reducible refine (c26 B _).mono ?_; rintro e w1 ⟨rfl, b⟩; replace bel := seq_below bel b; replace hh := hh.below b; replace hk := hk.below b; clear b l0 l1 l2 l3 l4 l5; obtain ⟨l0, l1, l2, l3, l4, l5⟩ := hh.cells)
    | (go_at_call 18; with_reducible refine (c18 B _).mono ?_; rintro e w1 ⟨P18, rfl, b⟩; replace bel := seq_below bel b; replace hh := hh.below b; replace hk := hk.below b; clear b l0 l1 l2 l3 l4 l5; obtain ⟨l0, l1, l2, l3, l4, l5⟩ := hh.cells)
    | (go_at_call 27; with_reducible refine (c27 _ _ hk).mono ?_; rintro e w1 ⟨rfl, rfl⟩)
    | (go_at_call 28; with_reducible refine (c28 _ _ hk).mono ?_; rintro e w1 ⟨rfl, rfl⟩)
    | (go_at_call 7; refine (awake_any (hw.below bel)).mono ?_; rintro e w1 ⟨rfl, b⟩; replace bel := seq_below bel b))
  go_ret
  exact ⟨rfl, bel⟩
set_option maxRecDepth 100000 in
set_option maxHeartbeats 4000000 in
theorem none_n2_n1 {s a c d g k node i rc : Int} {w : World} (hw : WT w) (_hrc : (Lit.int .i64 rc).wf = true) (w0 : 0 ≤ node) (w1 : node < s) (w2 : ¬ 0 ≤ i) (s0 : 0 ≤ rc) (s1 : ¬ rc < s)
    (cR : ∀ w, Calls Tryd.prog 23 #[.agg #[.int .i64 s, .int .i64 a, .int .i64 c, .int .i64 d, .int .i64 g, .int .i64 k]] w fun e w' => e = .returned (.bool true) ∧ Below w.heap.size w w')
    (_cM : ∀ w, Calls Tryd.prog 24 #[.agg #[.int .i64 s, .int .i64 a, .int .i64 c, .int .i64 d, .int .i64 g, .int .i64 k]] w fun e w' => e = .returned (.int .i64 (bsI a)) ∧ Below w.heap.size w w')
    (c11 : ∀ (B : Nat) (w : World), Calls Tryd.prog 11 #[.agg #[.int .i64 s, .int .i64 a, .int .i64 c, .int .i64 d, .int .i64 g, .int .i64 k], .int .i64 node, .int .i64 i, .pointer (some ⟨B, 0, none⟩)] w fun e w' => e = .returned (.pointer none) ∧ Below w.heap.size w w')
    (c20 : ∀ (B : Nat) (w : World), Calls Tryd.prog 20 #[.agg #[.int .i64 s, .int .i64 a, .int .i64 c, .int .i64 d, .int .i64 g, .int .i64 k], .int .i64 node, .int .i64 i, .int .u64 3, .pointer (some ⟨B, 0, none⟩)] w fun e w' => e = .returned (.pointer none) ∧ Below w.heap.size w w')
    (c16 : ∀ (B : Nat) (w : World), Calls Tryd.prog 16 #[.agg #[.int .i64 s, .int .i64 a, .int .i64 c, .int .i64 d, .int .i64 g, .int .i64 k], .int .i64 node, .int .i64 i, .int .i64 rc, .int .i64 (-2), .int .u64 0, .pointer (some ⟨B, 0, none⟩)] w fun e w' => e = .returned (.pointer none) ∧ Below w.heap.size w w')
    (c26 : ∀ (B : Nat) (w : World), Calls Tryd.prog 26 #[.agg #[.int .i64 s, .int .i64 a, .int .i64 c, .int .i64 d, .int .i64 g, .int .i64 k], .int .i64 rc, .pointer (some ⟨B, 0, none⟩)] w fun e w' => e = .returned (.pointer none) ∧ Below w.heap.size w w')
    (c18 : ∀ (B : Nat) (w : World), Calls Tryd.prog 18 #[.agg #[.int .i64 s, .int .i64 a, .int .i64 c, .int .i64 d, .int .i64 g, .int .i64 k], .pointer (some ⟨B, 0, none⟩)] w fun e w' => ∃ P, e = .returned (.pointer (some ⟨P, 0, none⟩)) ∧ Below w.heap.size w w') :
    Calls Tryd.prog 6 #[.agg #[.int .i64 s, .int .i64 a, .int .i64 c, .int .i64 d, .int .i64 g, .int .i64 k], .int .i64 node, .int .i64 i, .int .i64 rc, .bool true] w fun e w' => e = .returned (.bool true) ∧ Below w.heap.size w w' := by
  have n12 := rd_nil (.pointer none)
  have n21 := se_nil (.pointer none)
  have n17 := la_nil (.pointer none)
  have n19 := tu_nil (.pointer none)
  have n25 := sm_nil (.pointer none)
  have bel := alloc_below w (.cells #[.int .i64 s, .int .i64 a, .int .i64 c, .int .i64 d, .int .i64 g, .int .i64 k] 42)
  have hh := cfg_new w s a c d g k
  have c22 := fun w => newBook_any w 0
  have c27 : ∀ wr B, IsBook wr 0 B 0 bk0 (.map none) (.map none) → Calls Tryd.prog 27 #[.pointer (some ⟨B, 0, none⟩), .int .i64 rc] wr fun e w' => e = .returned (.int .i64 (-1)) ∧ wr = w' := fun wr B h => born_any h rc _hrc
  have c28 : ∀ wr B, IsBook wr 0 B 0 bk0 (.map none) (.map none) → Calls Tryd.prog 28 #[.pointer (some ⟨B, 0, none⟩), .int .u64 3] wr fun e w' => e = .returned (.int .i64 (-1)) ∧ wr = w' := fun wr B h => turned_any h 3 (by decide)
  go_enter Tryd.func6, Tryd.ntmps6
  go_upto_region 1 with fail
  generalize w.alloc (.cells #[.int .i64 s, .int .i64 a, .int .i64 c, .int .i64 d, .int .i64 g, .int .i64 k] 42) = w0 at *
  generalize hC : w.heap.size = C at hh ⊢
  replace hC : Hid (w.heap.size = C) := hC
  obtain ⟨l0, l1, l2, l3, l4, l5⟩ := hh.cells
  go_upto_region 4 with (go_at_call 22; with_reducible refine (c22 _).mono ?_; rintro e w1 ⟨B, rfl, hk, hB, b⟩; replace bel := seq_below bel b; replace hh := hh.below b; clear b l0 l1 l2 l3 l4 l5; obtain ⟨l0, l1, l2, l3, l4, l5⟩ := hh.cells)
  clear c22 hB
  go_wp2_with (first
    | (go_at_call 23; with_reducible refine (cR _).mono ?_; rintro e w1 ⟨rfl, b⟩; replace bel := seq_below bel b; replace hh := hh.below b; replace hk := hk.below b; clear b l0 l1 l2 l3 l4 l5; obtain ⟨l0, l1, l2, l3, l4, l5⟩ := hh.cells)
    | (go_at_call 24; with_reducible refine (_cM _).mono ?_; rintro e w1 ⟨rfl, b⟩; replace bel := seq_below bel b; replace hh := hh.below b; replace hk := hk.below b; clear b l0 l1 l2 l3 l4 l5; obtain ⟨l0, l1, l2, l3, l4, l5⟩ := hh.cells)
    | (go_at_call 12; with_reducible refine (n12 _).mono ?_; rintro e w1 ⟨rfl, rfl⟩)
    | (go_at_call 21; with_reducible refine (n21 _).mono ?_; rintro e w1 ⟨rfl, rfl⟩)
    | (go_at_call 17; with_reducible refine (n17 _).mono ?_; rintro e w1 ⟨rfl, rfl⟩)
    | (go_at_call 19; with_reducible refine (n19 _).mono ?_; rintro e w1 ⟨rfl, rfl⟩)
    | (go_at_call 25; with_reducible refine (n25 _).mono ?_; rintro e w1 ⟨rfl, rfl⟩)
    | (go_at_call 11; with_reducible refine (c11 B _).mono ?_; rintro e w1 ⟨rfl, b⟩; replace bel := seq_below bel b; replace hh := hh.below b; replace hk := hk.below b; clear b l0 l1 l2 l3 l4 l5; obtain ⟨l0, l1, l2, l3, l4, l5⟩ := hh.cells)
    | (go_at_call 20; with_reducible refine (c20 B _).mono ?_; rintro e w1 ⟨rfl, b⟩; replace bel := seq_below bel b; replace hh := hh.below b; replace hk := hk.below b; clear b l0 l1 l2 l3 l4 l5; obtain ⟨l0, l1, l2, l3, l4, l5⟩ := hh.cells)
    | (go_at_call 16; with_reducible refine (c16 B _).mono ?_; rintro e w1 ⟨rfl, b⟩; replace bel := seq_below bel b; replace hh := hh.below b; replace hk := hk.below b; clear b l0 l1 l2 l3 l4 l5; obtain ⟨l0, l1, l2, l3, l4, l5⟩ := hh.cells)
    | (go_at_call 26; with_reducible refine (c26 B _).mono ?_; rintro e w1 ⟨rfl, b⟩; replace bel := seq_below bel b; replace hh := hh.below b; replace hk := hk.below b; clear b l0 l1 l2 l3 l4 l5; obtain ⟨l0, l1, l2, l3, l4, l5⟩ := hh.cells)
    | (go_at_call 18; with_reducible refine (c18 B _).mono ?_; rintro e w1 ⟨P18, rfl, b⟩; replace bel := seq_below bel b; replace hh := hh.below b; replace hk := hk.below b; clear b l0 l1 l2 l3 l4 l5; obtain ⟨l0, l1, l2, l3, l4, l5⟩ := hh.cells)
    | (go_at_call 27; with_reducible refine (c27 _ _ hk).mono ?_; rintro e w1 ⟨rfl, rfl⟩)
    | (go_at_call 28; with_reducible refine (c28 _ _ hk).mono ?_; rintro e w1 ⟨rfl, rfl⟩)
    | (go_at_call 7; refine (awake_any (hw.below bel)).mono ?_; rintro e w1 ⟨rfl, b⟩; replace bel := seq_below bel b))
  go_ret
  refine ⟨?_, bel⟩
  first
    | rfl
    | (show Ending.returned (Value.bool (!decide (rc < s))) = _; rw [decide_eq_false (by omega)]; rfl)
end Go.Proofs.YtnegdabcjnhpdaaDoor
/- The law of no machine: its walk, case by case, over the callees' contracts. -/
namespace Go.Proofs.YtnegdabcjnhpdaaDoor
open Go.RowKit
open Mm (IsMem MS touched Only)
open Hh (WT)
set_option maxRecDepth 100000 in
set_option maxHeartbeats 4000000 in
theorem none_y_y {s a c d g k node i rc : Int} {w : World} (hw : WT w) (_hrc : (Lit.int .i64 rc).wf = true) (w0 : 0 ≤ node) (w1 : node < s) (w2 : 0 ≤ i) (w3 : i < bsI a) (s0 : 0 ≤ rc) (s1 : rc < s)
    (cR : ∀ w, Calls Tryd.prog 23 #[.agg #[.int .i64 s, .int .i64 a, .int .i64 c, .int .i64 d, .int .i64 g, .int .i64 k]] w fun e w' => e = .returned (.bool true) ∧ Below w.heap.size w w')
    (_cM : ∀ w, Calls Tryd.prog 24 #[.agg #[.int .i64 s, .int .i64 a, .int .i64 c, .int .i64 d, .int .i64 g, .int .i64 k]] w fun e w' => e = .returned (.int .i64 (bsI a)) ∧ Below w.heap.size w w')
    (c11 : ∀ (B : Nat) (w : World), Calls Tryd.prog 11 #[.agg #[.int .i64 s, .int .i64 a, .int .i64 c, .int .i64 d, .int .i64 g, .int .i64 k], .int .i64 node, .int .i64 i, .pointer (some ⟨B, 0, none⟩)] w fun e w' => ∃ P, e = .returned (.pointer (some ⟨P, 0, none⟩)) ∧ Below w.heap.size w w')
    (c20 : ∀ (B : Nat) (w : World), Calls Tryd.prog 20 #[.agg #[.int .i64 s, .int .i64 a, .int .i64 c, .int .i64 d, .int .i64 g, .int .i64 k], .int .i64 node, .int .i64 i, .int .u64 3, .pointer (some ⟨B, 0, none⟩)] w fun e w' => ∃ P, e = .returned (.pointer (some ⟨P, 0, none⟩)) ∧ Below w.heap.size w w')
    (c16 : ∀ (B : Nat) (w : World), Calls Tryd.prog 16 #[.agg #[.int .i64 s, .int .i64 a, .int .i64 c, .int .i64 d, .int .i64 g, .int .i64 k], .int .i64 node, .int .i64 i, .int .i64 rc, .int .i64 (-2), .int .u64 0, .pointer (some ⟨B, 0, none⟩)] w fun e w' => ∃ P, e = .returned (.pointer (some ⟨P, 0, none⟩)) ∧ Below w.heap.size w w')
    (c26 : ∀ (B : Nat) (w : World), Calls Tryd.prog 26 #[.agg #[.int .i64 s, .int .i64 a, .int .i64 c, .int .i64 d, .int .i64 g, .int .i64 k], .int .i64 rc, .pointer (some ⟨B, 0, none⟩)] w fun e w' => ∃ P, e = .returned (.pointer (some ⟨P, 0, none⟩)) ∧ Below w.heap.size w w')
    (c18 : ∀ (B : Nat) (w : World), Calls Tryd.prog 18 #[.agg #[.int .i64 s, .int .i64 a, .int .i64 c, .int .i64 d, .int .i64 g, .int .i64 k], .pointer (some ⟨B, 0, none⟩)] w fun e w' => ∃ P, e = .returned (.pointer (some ⟨P, 0, none⟩)) ∧ Below w.heap.size w w') :
    Calls Tryd.prog 6 #[.agg #[.int .i64 s, .int .i64 a, .int .i64 c, .int .i64 d, .int .i64 g, .int .i64 k], .int .i64 node, .int .i64 i, .int .i64 rc, .bool true] w fun e w' => e = .returned (.bool true) ∧ Below w.heap.size w w' := by
  have n12 := rd_nil (.pointer none)
  have n21 := se_nil (.pointer none)
  have n17 := la_nil (.pointer none)
  have n19 := tu_nil (.pointer none)
  have n25 := sm_nil (.pointer none)
  have bel := alloc_below w (.cells #[.int .i64 s, .int .i64 a, .int .i64 c, .int .i64 d, .int .i64 g, .int .i64 k] 42)
  have hh := cfg_new w s a c d g k
  have c22 := fun w => newBook_any w 0
  have c27 : ∀ wr B, IsBook wr 0 B 0 bk0 (.map none) (.map none) → Calls Tryd.prog 27 #[.pointer (some ⟨B, 0, none⟩), .int .i64 rc] wr fun e w' => e = .returned (.int .i64 (-1)) ∧ wr = w' := fun wr B h => born_any h rc _hrc
  have c28 : ∀ wr B, IsBook wr 0 B 0 bk0 (.map none) (.map none) → Calls Tryd.prog 28 #[.pointer (some ⟨B, 0, none⟩), .int .u64 3] wr fun e w' => e = .returned (.int .i64 (-1)) ∧ wr = w' := fun wr B h => turned_any h 3 (by decide)
  go_enter Tryd.func6, Tryd.ntmps6
  go_upto_region 1 with fail
  generalize w.alloc (.cells #[.int .i64 s, .int .i64 a, .int .i64 c, .int .i64 d, .int .i64 g, .int .i64 k] 42) = w0 at *
  generalize hC : w.heap.size = C at hh ⊢
  replace hC : Hid (w.heap.size = C) := hC
  obtain ⟨l0, l1, l2, l3, l4, l5⟩ := hh.cells
  go_upto_region 4 with (go_at_call 22; with_reducible refine (c22 _).mono ?_; rintro e w1 ⟨B, rfl, hk, hB, b⟩; replace bel := seq_below bel b; replace hh := hh.below b; clear b l0 l1 l2 l3 l4 l5; obtain ⟨l0, l1, l2, l3, l4, l5⟩ := hh.cells)
  clear c22 hB
  go_wp2_with (first
    | (go_at_call 23; with_reducible refine (cR _).mono ?_; rintro e w1 ⟨rfl, b⟩; replace bel := seq_below bel b; replace hh := hh.below b; replace hk := hk.below b; clear b l0 l1 l2 l3 l4 l5; obtain ⟨l0, l1, l2, l3, l4, l5⟩ := hh.cells)
    | (go_at_call 24; with_reducible refine (_cM _).mono ?_; rintro e w1 ⟨rfl, b⟩; replace bel := seq_below bel b; replace hh := hh.below b; replace hk := hk.below b; clear b l0 l1 l2 l3 l4 l5; obtain ⟨l0, l1, l2, l3, l4, l5⟩ := hh.cells)
    | (go_at_call 12; with_reducible refine (n12 _).mono ?_; rintro e w1 ⟨rfl, rfl⟩)
    | (go_at_call 21; with_reducible refine (n21 _).mono ?_; rintro e w1 ⟨rfl, rfl⟩)
    | (go_at_call 17; with_reducible refine (n17 _).mono ?_; rintro e w1 ⟨rfl, rfl⟩)
    | (go_at_call 19; with_reducible refine (n19 _).mono ?_; rintro e w1 ⟨rfl, rfl⟩)
    | (go_at_call 25; with_reducible refine (n25 _).mono ?_; rintro e w1 ⟨rfl, rfl⟩)
    | (go_at_call 11; with_reducible refine (c11 B _).mono ?_; rintro e w1 ⟨P11, rfl, b⟩; replace bel := seq_below bel b; replace hh := hh.below b; replace hk := hk.below b; clear b l0 l1 l2 l3 l4 l5; obtain ⟨l0, l1, l2, l3, l4, l5⟩ := hh.cells)
    | (go_at_call 20; with_reducible refine (c20 B _).mono ?_; rintro e w1 ⟨P20, rfl, b⟩; replace bel := seq_below bel b; replace hh := hh.below b; replace hk := hk.below b; clear b l0 l1 l2 l3 l4 l5; obtain ⟨l0, l1, l2, l3, l4, l5⟩ := hh.cells)
    | (go_at_call 16; with_reducible refine (c16 B _).mono ?_; rintro e w1 ⟨P16, rfl, b⟩; replace bel := seq_below bel b; replace hh := hh.below b; replace hk := hk.below b; clear b l0 l1 l2 l3 l4 l5; obtain ⟨l0, l1, l2, l3, l4, l5⟩ := hh.cells)
    | (go_at_call 26; with_reducible refine (c26 B _).mono ?_; rintro e w1 ⟨P26, rfl, b⟩; replace bel := seq_below bel b; replace hh := hh.below b; replace hk := hk.below b; clear b l0 l1 l2 l3 l4 l5; obtain ⟨l0, l1, l2, l3, l4, l5⟩ := hh.cells)
    | (go_at_call 18; with_reducible refine (c18 B _).mono ?_; rintro e w1 ⟨P18, rfl, b⟩; replace bel := seq_below bel b; replace hh := hh.below b; replace hk := hk.below b; clear b l0 l1 l2 l3 l4 l5; obtain ⟨l0, l1, l2, l3, l4, l5⟩ := hh.cells)
    | (go_at_call 27; with_reducible refine (c27 _ _ hk).mono ?_; rintro e w1 ⟨rfl, rfl⟩)
    | (go_at_call 28; with_reducible refine (c28 _ _ hk).mono ?_; rintro e w1 ⟨rfl, rfl⟩)
    | (go_at_call 7; refine (awake_any (hw.below bel)).mono ?_; rintro e w1 ⟨rfl, b⟩; replace bel := seq_below bel b))
  go_ret
  exact ⟨rfl, bel⟩
set_option maxRecDepth 100000 in
set_option maxHeartbeats 4000000 in
theorem none_n0_n0 {s a c d g k node i rc : Int} {w : World} (hw : WT w) (_hrc : (Lit.int .i64 rc).wf = true) (w0 : ¬ 0 ≤ node) (s0 : ¬ 0 ≤ rc)
    (cR : ∀ w, Calls Tryd.prog 23 #[.agg #[.int .i64 s, .int .i64 a, .int .i64 c, .int .i64 d, .int .i64 g, .int .i64 k]] w fun e w' => e = .returned (.bool true) ∧ Below w.heap.size w w')
    (_cM : ∀ w, Calls Tryd.prog 24 #[.agg #[.int .i64 s, .int .i64 a, .int .i64 c, .int .i64 d, .int .i64 g, .int .i64 k]] w fun e w' => e = .returned (.int .i64 (bsI a)) ∧ Below w.heap.size w w')
    (c11 : ∀ (B : Nat) (w : World), Calls Tryd.prog 11 #[.agg #[.int .i64 s, .int .i64 a, .int .i64 c, .int .i64 d, .int .i64 g, .int .i64 k], .int .i64 node, .int .i64 i, .pointer (some ⟨B, 0, none⟩)] w fun e w' => e = .returned (.pointer none) ∧ Below w.heap.size w w')
    (c20 : ∀ (B : Nat) (w : World), Calls Tryd.prog 20 #[.agg #[.int .i64 s, .int .i64 a, .int .i64 c, .int .i64 d, .int .i64 g, .int .i64 k], .int .i64 node, .int .i64 i, .int .u64 3, .pointer (some ⟨B, 0, none⟩)] w fun e w' => e = .returned (.pointer none) ∧ Below w.heap.size w w')
    (c16 : ∀ (B : Nat) (w : World), Calls Tryd.prog 16 #[.agg #[.int .i64 s, .int .i64 a, .int .i64 c, .int .i64 d, .int .i64 g, .int .i64 k], .int .i64 node, .int .i64 i, .int .i64 rc, .int .i64 (-2), .int .u64 0, .pointer (some ⟨B, 0, none⟩)] w fun e w' => e = .returned (.pointer none) ∧ Below w.heap.size w w')
    (c26 : ∀ (B : Nat) (w : World), Calls Tryd.prog 26 #[.agg #[.int .i64 s, .int .i64 a, .int .i64 c, .int .i64 d, .int .i64 g, .int .i64 k], .int .i64 rc, .pointer (some ⟨B, 0, none⟩)] w fun e w' => e = .returned (.pointer none) ∧ Below w.heap.size w w')
    (c18 : ∀ (B : Nat) (w : World), Calls Tryd.prog 18 #[.agg #[.int .i64 s, .int .i64 a, .int .i64 c, .int .i64 d, .int .i64 g, .int .i64 k], .pointer (some ⟨B, 0, none⟩)] w fun e w' => ∃ P, e = .returned (.pointer (some ⟨P, 0, none⟩)) ∧ Below w.heap.size w w') :
    Calls Tryd.prog 6 #[.agg #[.int .i64 s, .int .i64 a, .int .i64 c, .int .i64 d, .int .i64 g, .int .i64 k], .int .i64 node, .int .i64 i, .int .i64 rc, .bool true] w fun e w' => e = .returned (.bool true) ∧ Below w.heap.size w w' := by
  have n12 := rd_nil (.pointer none)
  have n21 := se_nil (.pointer none)
  have n17 := la_nil (.pointer none)
  have n19 := tu_nil (.pointer none)
  have n25 := sm_nil (.pointer none)
  have bel := alloc_below w (.cells #[.int .i64 s, .int .i64 a, .int .i64 c, .int .i64 d, .int .i64 g, .int .i64 k] 42)
  have hh := cfg_new w s a c d g k
  have c22 := fun w => newBook_any w 0
  have c27 : ∀ wr B, IsBook wr 0 B 0 bk0 (.map none) (.map none) → Calls Tryd.prog 27 #[.pointer (some ⟨B, 0, none⟩), .int .i64 rc] wr fun e w' => e = .returned (.int .i64 (-1)) ∧ wr = w' := fun wr B h => born_any h rc _hrc
  have c28 : ∀ wr B, IsBook wr 0 B 0 bk0 (.map none) (.map none) → Calls Tryd.prog 28 #[.pointer (some ⟨B, 0, none⟩), .int .u64 3] wr fun e w' => e = .returned (.int .i64 (-1)) ∧ wr = w' := fun wr B h => turned_any h 3 (by decide)
  go_enter Tryd.func6, Tryd.ntmps6
  go_upto_region 1 with fail
  generalize w.alloc (.cells #[.int .i64 s, .int .i64 a, .int .i64 c, .int .i64 d, .int .i64 g, .int .i64 k] 42) = w0 at *
  generalize hC : w.heap.size = C at hh ⊢
  replace hC : Hid (w.heap.size = C) := hC
  obtain ⟨l0, l1, l2, l3, l4, l5⟩ := hh.cells
  go_upto_region 4 with (go_at_call 22; with_reducible refine (c22 _).mono ?_; rintro e w1 ⟨B, rfl, hk, hB, b⟩; replace bel := seq_below bel b; replace hh := hh.below b; clear b l0 l1 l2 l3 l4 l5; obtain ⟨l0, l1, l2, l3, l4, l5⟩ := hh.cells)
  clear c22 hB
  go_wp2_with (first
    | (go_at_call 23; with_reducible refine (cR _).mono ?_; rintro e w1 ⟨rfl, b⟩; replace bel := seq_below bel b; replace hh := hh.below b; replace hk := hk.below b; clear b l0 l1 l2 l3 l4 l5; obtain ⟨l0, l1, l2, l3, l4, l5⟩ := hh.cells)
    | (go_at_call 24; with_reducible refine (_cM _).mono ?_; rintro e w1 ⟨rfl, b⟩; replace bel := seq_below bel b; replace hh := hh.below b; replace hk := hk.below b; clear b l0 l1 l2 l3 l4 l5; obtain ⟨l0, l1, l2, l3, l4, l5⟩ := hh.cells)
    | (go_at_call 12; with_reducible refine (n12 _).mono ?_; rintro e w1 ⟨rfl, rfl⟩)
    | (go_at_call 21; with_reducible refine (n21 _).mono ?_; rintro e w1 ⟨rfl, rfl⟩)
    | (go_at_call 17; with_reducible refine (n17 _).mono ?_; rintro e w1 ⟨rfl, rfl⟩)
    | (go_at_call 19; with_reducible refine (n19 _).mono ?_; rintro e w1 ⟨rfl, rfl⟩)
    | (go_at_call 25; with_reducible refine (n25 _).mono ?_; rintro e w1 ⟨rfl, rfl⟩)
    | (go_at_call 11; with_reducible refine (c11 B _).mono ?_; rintro e w1 ⟨rfl, b⟩; replace bel := seq_below bel b; replace hh := hh.below b; replace hk := hk.below b; clear b l0 l1 l2 l3 l4 l5; obtain ⟨l0, l1, l2, l3, l4, l5⟩ := hh.cells)
    | (go_at_call 20; with_reducible refine (c20 B _).mono ?_; rintro e w1 ⟨rfl, b⟩; replace bel := seq_below bel b; replace hh := hh.below b; replace hk := hk.below b; clear b l0 l1 l2 l3 l4 l5; obtain ⟨l0, l1, l2, l3, l4, l5⟩ := hh.cells)
    | (go_at_call 16; with_reducible refine (c16 B _).mono ?_; rintro e w1 ⟨rfl, b⟩; replace bel := seq_below bel b; replace hh := hh.below b; replace hk := hk.below b; clear b l0 l1 l2 l3 l4 l5; obtain ⟨l0, l1, l2, l3, l4, l5⟩ := hh.cells)
    | (go_at_call 26; with_reducible refine (c26 B _).mono ?_; rintro e w1 ⟨rfl, b⟩; replace bel := seq_below bel b; replace hh := hh.below b; replace hk := hk.below b; clear b l0 l1 l2 l3 l4 l5; obtain ⟨l0, l1, l2, l3, l4, l5⟩ := hh.cells)
    | (go_at_call 18; with_reducible refine (c18 B _).mono ?_; rintro e w1 ⟨P18, rfl, b⟩; replace bel := seq_below bel b; replace hh := hh.below b; replace hk := hk.below b; clear b l0 l1 l2 l3 l4 l5; obtain ⟨l0, l1, l2, l3, l4, l5⟩ := hh.cells)
    | (go_at_call 27; with_reducible refine (c27 _ _ hk).mono ?_; rintro e w1 ⟨rfl, rfl⟩)
    | (go_at_call 28; with_reducible refine (c28 _ _ hk).mono ?_; rintro e w1 ⟨rfl, rfl⟩)
    | (go_at_call 7; refine (awake_any (hw.below bel)).mono ?_; rintro e w1 ⟨rfl, b⟩; replace bel := seq_below bel b))
  go_ret
  exact ⟨rfl, bel⟩
set_option maxRecDepth 100000 in
set_option maxHeartbeats 4000000 in
theorem none_n1_n1 {s a c d g k node i rc : Int} {w : World} (hw : WT w) (_hrc : (Lit.int .i64 rc).wf = true) (w0 : 0 ≤ node) (w1 : ¬ node < s) (s0 : 0 ≤ rc) (s1 : ¬ rc < s)
    (cR : ∀ w, Calls Tryd.prog 23 #[.agg #[.int .i64 s, .int .i64 a, .int .i64 c, .int .i64 d, .int .i64 g, .int .i64 k]] w fun e w' => e = .returned (.bool true) ∧ Below w.heap.size w w')
    (_cM : ∀ w, Calls Tryd.prog 24 #[.agg #[.int .i64 s, .int .i64 a, .int .i64 c, .int .i64 d, .int .i64 g, .int .i64 k]] w fun e w' => e = .returned (.int .i64 (bsI a)) ∧ Below w.heap.size w w')
    (c11 : ∀ (B : Nat) (w : World), Calls Tryd.prog 11 #[.agg #[.int .i64 s, .int .i64 a, .int .i64 c, .int .i64 d, .int .i64 g, .int .i64 k], .int .i64 node, .int .i64 i, .pointer (some ⟨B, 0, none⟩)] w fun e w' => e = .returned (.pointer none) ∧ Below w.heap.size w w')
    (c20 : ∀ (B : Nat) (w : World), Calls Tryd.prog 20 #[.agg #[.int .i64 s, .int .i64 a, .int .i64 c, .int .i64 d, .int .i64 g, .int .i64 k], .int .i64 node, .int .i64 i, .int .u64 3, .pointer (some ⟨B, 0, none⟩)] w fun e w' => e = .returned (.pointer none) ∧ Below w.heap.size w w')
    (c16 : ∀ (B : Nat) (w : World), Calls Tryd.prog 16 #[.agg #[.int .i64 s, .int .i64 a, .int .i64 c, .int .i64 d, .int .i64 g, .int .i64 k], .int .i64 node, .int .i64 i, .int .i64 rc, .int .i64 (-2), .int .u64 0, .pointer (some ⟨B, 0, none⟩)] w fun e w' => e = .returned (.pointer none) ∧ Below w.heap.size w w')
    (c26 : ∀ (B : Nat) (w : World), Calls Tryd.prog 26 #[.agg #[.int .i64 s, .int .i64 a, .int .i64 c, .int .i64 d, .int .i64 g, .int .i64 k], .int .i64 rc, .pointer (some ⟨B, 0, none⟩)] w fun e w' => e = .returned (.pointer none) ∧ Below w.heap.size w w')
    (c18 : ∀ (B : Nat) (w : World), Calls Tryd.prog 18 #[.agg #[.int .i64 s, .int .i64 a, .int .i64 c, .int .i64 d, .int .i64 g, .int .i64 k], .pointer (some ⟨B, 0, none⟩)] w fun e w' => ∃ P, e = .returned (.pointer (some ⟨P, 0, none⟩)) ∧ Below w.heap.size w w') :
    Calls Tryd.prog 6 #[.agg #[.int .i64 s, .int .i64 a, .int .i64 c, .int .i64 d, .int .i64 g, .int .i64 k], .int .i64 node, .int .i64 i, .int .i64 rc, .bool true] w fun e w' => e = .returned (.bool true) ∧ Below w.heap.size w w' := by
  have n12 := rd_nil (.pointer none)
  have n21 := se_nil (.pointer none)
  have n17 := la_nil (.pointer none)
  have n19 := tu_nil (.pointer none)
  have n25 := sm_nil (.pointer none)
  have bel := alloc_below w (.cells #[.int .i64 s, .int .i64 a, .int .i64 c, .int .i64 d, .int .i64 g, .int .i64 k] 42)
  have hh := cfg_new w s a c d g k
  have c22 := fun w => newBook_any w 0
  have c27 : ∀ wr B, IsBook wr 0 B 0 bk0 (.map none) (.map none) → Calls Tryd.prog 27 #[.pointer (some ⟨B, 0, none⟩), .int .i64 rc] wr fun e w' => e = .returned (.int .i64 (-1)) ∧ wr = w' := fun wr B h => born_any h rc _hrc
  have c28 : ∀ wr B, IsBook wr 0 B 0 bk0 (.map none) (.map none) → Calls Tryd.prog 28 #[.pointer (some ⟨B, 0, none⟩), .int .u64 3] wr fun e w' => e = .returned (.int .i64 (-1)) ∧ wr = w' := fun wr B h => turned_any h 3 (by decide)
  go_enter Tryd.func6, Tryd.ntmps6
  go_upto_region 1 with fail
  generalize w.alloc (.cells #[.int .i64 s, .int .i64 a, .int .i64 c, .int .i64 d, .int .i64 g, .int .i64 k] 42) = w0 at *
  generalize hC : w.heap.size = C at hh ⊢
  replace hC : Hid (w.heap.size = C) := hC
  obtain ⟨l0, l1, l2, l3, l4, l5⟩ := hh.cells
  go_upto_region 4 with (go_at_call 22; with_reducible refine (c22 _).mono ?_; rintro e w1 ⟨B, rfl, hk, hB, b⟩; replace bel := seq_below bel b; replace hh := hh.below b; clear b l0 l1 l2 l3 l4 l5; obtain ⟨l0, l1, l2, l3, l4, l5⟩ := hh.cells)
  clear c22 hB
  go_wp2_with (first
    | (go_at_call 23; with_reducible refine (cR _).mono ?_; rintro e w1 ⟨rfl, b⟩; replace bel := seq_below bel b; replace hh := hh.below b; replace hk := hk.below b; clear b l0 l1 l2 l3 l4 l5; obtain ⟨l0, l1, l2, l3, l4, l5⟩ := hh.cells)
    | (go_at_call 24; with_reducible refine (_cM _).mono ?_; rintro e w1 ⟨rfl, b⟩; replace bel := seq_below bel b; replace hh := hh.below b; replace hk := hk.below b; clear b l0 l1 l2 l3 l4 l5; obtain ⟨l0, l1, l2, l3, l4, l5⟩ := hh.cells)
    | (go_at_call 12; with_reducible refine (n12 _).mono ?_; rintro e w1 ⟨rfl, rfl⟩)
    | (go_at_call 21; with_reducible refine (n21 _).mono ?_; rintro e w1 ⟨rfl, rfl⟩)
    | (go_at_call 17; with_reducible refine (n17 _).mono ?_; rintro e w1 ⟨rfl, rfl⟩)
    | (go_at_call 19; with_reducible refine (n19 _).mono ?_; rintro e w1 ⟨rfl, rfl⟩)
    | (go_at_call 25; with_reducible refine (n25 _).mono ?_; rintro e w1 ⟨rfl, rfl⟩)
    | (go_at_call 11; with_reducible refine (c11 B _).mono ?_; rintro e w1 ⟨rfl, b⟩; replace bel := seq_below bel b; replace hh := hh.below b; replace hk := hk.below b; clear b l0 l1 l2 l3 l4 l5; obtain ⟨l0, l1, l2, l3, l4, l5⟩ := hh.cells)
    | (go_at_call 20; with_reducible refine (c20 B _).mono ?_; rintro e w1 ⟨rfl, b⟩; replace bel := seq_below bel b; replace hh := hh.below b; replace hk := hk.below b; clear b l0 l1 l2 l3 l4 l5; obtain ⟨l0, l1, l2, l3, l4, l5⟩ := hh.cells)
    | (go_at_call 16; with_reducible refine (c16 B _).mono ?_; rintro e w1 ⟨rfl, b⟩; replace bel := seq_below bel b; replace hh := hh.below b; replace hk := hk.below b; clear b l0 l1 l2 l3 l4 l5; obtain ⟨l0, l1, l2, l3, l4, l5⟩ := hh.cells)
    | (go_at_call 26; with_reducible refine (c26 B _).mono ?_; rintro e w1 ⟨rfl, b⟩; replace bel := seq_below bel b; replace hh := hh.below b; replace hk := hk.below b; clear b l0 l1 l2 l3 l4 l5; obtain ⟨l0, l1, l2, l3, l4, l5⟩ := hh.cells)
    | (go_at_call 18; with_reducible refine (c18 B _).mono ?_; rintro e w1 ⟨P18, rfl, b⟩; replace bel := seq_below bel b; replace hh := hh.below b; replace hk := hk.below b; clear b l0 l1 l2 l3 l4 l5; obtain ⟨l0, l1, l2, l3, l4, l5⟩ := hh.cells)
    | (go_at_call 27; with_reducible refine (c27 _ _ hk).mono ?_; rintro e w1 ⟨rfl, rfl⟩)
    | (go_at_call 28; with_reducible refine (c28 _ _ hk).mono ?_; rintro e w1 ⟨rfl, rfl⟩)
    | (go_at_call 7; refine (awake_any (hw.below bel)).mono ?_; rintro e w1 ⟨rfl, b⟩; replace bel := seq_below bel b))
  go_ret
  refine ⟨?_, bel⟩
  first
    | rfl
    | (show Ending.returned (Value.bool (!decide (rc < s))) = _; rw [decide_eq_false (by omega)]; rfl)
set_option maxRecDepth 100000 in
set_option maxHeartbeats 4000000 in
theorem none_n3_y {s a c d g k node i rc : Int} {w : World} (hw : WT w) (_hrc : (Lit.int .i64 rc).wf = true) (w0 : 0 ≤ node) (w1 : node < s) (w2 : 0 ≤ i) (w3 : ¬ i < bsI a) (s0 : 0 ≤ rc) (s1 : rc < s)
    (cR : ∀ w, Calls Tryd.prog 23 #[.agg #[.int .i64 s, .int .i64 a, .int .i64 c, .int .i64 d, .int .i64 g, .int .i64 k]] w fun e w' => e = .returned (.bool true) ∧ Below w.heap.size w w')
    (_cM : ∀ w, Calls Tryd.prog 24 #[.agg #[.int .i64 s, .int .i64 a, .int .i64 c, .int .i64 d, .int .i64 g, .int .i64 k]] w fun e w' => e = .returned (.int .i64 (bsI a)) ∧ Below w.heap.size w w')
    (c11 : ∀ (B : Nat) (w : World), Calls Tryd.prog 11 #[.agg #[.int .i64 s, .int .i64 a, .int .i64 c, .int .i64 d, .int .i64 g, .int .i64 k], .int .i64 node, .int .i64 i, .pointer (some ⟨B, 0, none⟩)] w fun e w' => e = .returned (.pointer none) ∧ Below w.heap.size w w')
    (c20 : ∀ (B : Nat) (w : World), Calls Tryd.prog 20 #[.agg #[.int .i64 s, .int .i64 a, .int .i64 c, .int .i64 d, .int .i64 g, .int .i64 k], .int .i64 node, .int .i64 i, .int .u64 3, .pointer (some ⟨B, 0, none⟩)] w fun e w' => e = .returned (.pointer none) ∧ Below w.heap.size w w')
    (c16 : ∀ (B : Nat) (w : World), Calls Tryd.prog 16 #[.agg #[.int .i64 s, .int .i64 a, .int .i64 c, .int .i64 d, .int .i64 g, .int .i64 k], .int .i64 node, .int .i64 i, .int .i64 rc, .int .i64 (-2), .int .u64 0, .pointer (some ⟨B, 0, none⟩)] w fun e w' => e = .returned (.pointer none) ∧ Below w.heap.size w w')
    (c26 : ∀ (B : Nat) (w : World), Calls Tryd.prog 26 #[.agg #[.int .i64 s, .int .i64 a, .int .i64 c, .int .i64 d, .int .i64 g, .int .i64 k], .int .i64 rc, .pointer (some ⟨B, 0, none⟩)] w fun e w' => ∃ P, e = .returned (.pointer (some ⟨P, 0, none⟩)) ∧ Below w.heap.size w w')
    (c18 : ∀ (B : Nat) (w : World), Calls Tryd.prog 18 #[.agg #[.int .i64 s, .int .i64 a, .int .i64 c, .int .i64 d, .int .i64 g, .int .i64 k], .pointer (some ⟨B, 0, none⟩)] w fun e w' => ∃ P, e = .returned (.pointer (some ⟨P, 0, none⟩)) ∧ Below w.heap.size w w') :
    Calls Tryd.prog 6 #[.agg #[.int .i64 s, .int .i64 a, .int .i64 c, .int .i64 d, .int .i64 g, .int .i64 k], .int .i64 node, .int .i64 i, .int .i64 rc, .bool true] w fun e w' => e = .returned (.bool true) ∧ Below w.heap.size w w' := by
  have n12 := rd_nil (.pointer none)
  have n21 := se_nil (.pointer none)
  have n17 := la_nil (.pointer none)
  have n19 := tu_nil (.pointer none)
  have n25 := sm_nil (.pointer none)
  have bel := alloc_below w (.cells #[.int .i64 s, .int .i64 a, .int .i64 c, .int .i64 d, .int .i64 g, .int .i64 k] 42)
  have hh := cfg_new w s a c d g k
  have c22 := fun w => newBook_any w 0
  have c27 : ∀ wr B, IsBook wr 0 B 0 bk0 (.map none) (.map none) → Calls Tryd.prog 27 #[.pointer (some ⟨B, 0, none⟩), .int .i64 rc] wr fun e w' => e = .returned (.int .i64 (-1)) ∧ wr = w' := fun wr B h => born_any h rc _hrc
  have c28 : ∀ wr B, IsBook wr 0 B 0 bk0 (.map none) (.map none) → Calls Tryd.prog 28 #[.pointer (some ⟨B, 0, none⟩), .int .u64 3] wr fun e w' => e = .returned (.int .i64 (-1)) ∧ wr = w' := fun wr B h => turned_any h 3 (by decide)
  go_enter Tryd.func6, Tryd.ntmps6
  go_upto_region 1 with fail
  generalize w.alloc (.cells #[.int .i64 s, .int .i64 a, .int .i64 c, .int .i64 d, .int .i64 g, .int .i64 k] 42) = w0 at *
  generalize hC : w.heap.size = C at hh ⊢
  replace hC : Hid (w.heap.size = C) := hC
  obtain ⟨l0, l1, l2, l3, l4, l5⟩ := hh.cells
  go_upto_region 4 with (go_at_call 22; with_reducible refine (c22 _).mono ?_; rintro e w1 ⟨B, rfl, hk, hB, b⟩; replace bel := seq_below bel b; replace hh := hh.below b; clear b l0 l1 l2 l3 l4 l5; obtain ⟨l0, l1, l2, l3, l4, l5⟩ := hh.cells)
  clear c22 hB
  go_wp2_with (first
    | (go_at_call 23; with_reducible refine (cR _).mono ?_; rintro e w1 ⟨rfl, b⟩; replace bel := seq_below bel b; replace hh := hh.below b; replace hk := hk.below b; clear b l0 l1 l2 l3 l4 l5; obtain ⟨l0, l1, l2, l3, l4, l5⟩ := hh.cells)
    | (go_at_call 24; with_reducible refine (_cM _).mono ?_; rintro e w1 ⟨rfl, b⟩; replace bel := seq_below bel b; replace hh := hh.below b; replace hk := hk.below b; clear b l0 l1 l2 l3 l4 l5; obtain ⟨l0, l1, l2, l3, l4, l5⟩ := hh.cells)
    | (go_at_call 12; with_reducible refine (n12 _).mono ?_; rintro e w1 ⟨rfl, rfl⟩)
    | (go_at_call 21; with_reducible refine (n21 _).mono ?_; rintro e w1 ⟨rfl, rfl⟩)
    | (go_at_call 17; with_reducible refine (n17 _).mono ?_; rintro e w1 ⟨rfl, rfl⟩)
    | (go_at_call 19; with_reducible refine (n19 _).mono ?_; rintro e w1 ⟨rfl, rfl⟩)
    | (go_at_call 25; with_reducible refine (n25 _).mono ?_; rintro e w1 ⟨rfl, rfl⟩)
    | (go_at_call 11; with_reducible refine (c11 B _).mono ?_; rintro e w1 ⟨rfl, b⟩; replace bel := seq_below bel b; replace hh := hh.below b; replace hk := hk.below b; clear b l0 l1 l2 l3 l4 l5; obtain ⟨l0, l1, l2, l3, l4, l5⟩ := hh.cells)
    | (go_at_call 20; with_reducible refine (c20 B _).mono ?_; rintro e w1 ⟨rfl, b⟩; replace bel := seq_below bel b; replace hh := hh.below b; replace hk := hk.below b; clear b l0 l1 l2 l3 l4 l5; obtain ⟨l0, l1, l2, l3, l4, l5⟩ := hh.cells)
    | (go_at_call 16; with_reducible refine (c16 B _).mono ?_; rintro e w1 ⟨rfl, b⟩; replace bel := seq_below bel b; replace hh := hh.below b; replace hk := hk.below b; clear b l0 l1 l2 l3 l4 l5; obtain ⟨l0, l1, l2, l3, l4, l5⟩ := hh.cells)
    | (go_at_call 26; with_reducible refine (c26 B _).mono ?_; rintro e w1 ⟨P26, rfl, b⟩; replace bel := seq_below bel b; replace hh := hh.below b; replace hk := hk.below b; clear b l0 l1 l2 l3 l4 l5; obtain ⟨l0, l1, l2, l3, l4, l5⟩ := hh.cells)
    | (go_at_call 18; with_reducible refine (c18 B _).mono ?_; rintro e w1 ⟨P18, rfl, b⟩; replace bel := seq_below bel b; replace hh := hh.below b; replace hk := hk.below b; clear b l0 l1 l2 l3 l4 l5; obtain ⟨l0, l1, l2, l3, l4, l5⟩ := hh.cells)
    | (go_at_call 27; with_reducible refine (c27 _ _ hk).mono ?_; rintro e w1 ⟨rfl, rfl⟩)
    | (go_at_call 28; with_reducible refine (c28 _ _ hk).mono ?_; rintro e w1 ⟨rfl, rfl⟩)
    | (go_at_call 7; refine (awake_any (hw.below bel)).mono ?_; rintro e w1 ⟨rfl, b⟩; replace bel := seq_below bel b))
  go_ret
  exact ⟨rfl, bel⟩
end Go.Proofs.YtnegdabcjnhpdaaDoor
