/- Contracts of package arena's NewMake. -/
import Derived.Test.YtjbjijkkmlehgaaDoorANew
namespace Go.Proofs.YtjbjijkkmlehgaaDoor
open Go.RowKit
open Mm (IsMem MS touched Only IsWords)
open Hh (WT wordOf bornN okW Hr)

set_option maxHeartbeats 1000000 in
theorem newMake_wrong {s a c d g k : Int} (hr : rightB s a c d g k = false) (kind ar ep : Int) (v : Value) (w : World) :
    Calls Tryd.prog 19 #[.agg (cs s a c d g k), .int .i64 kind, .int .i64 ar, .int .u64 ep, v] w fun e w' => e = .returned (.pointer none) ∧ Below w.heap.size w w' := by
  have c1 := right_any s a c d g k
  rw [hr] at c1
  clear hr
  have bel := alloc_below w (.cells #[.int .i64 s, .int .i64 a, .int .i64 c, .int .i64 d, .int .i64 g, .int .i64 k] 23)
  have hh := cfg_new w s a c d g k
  go_enter Tryd.func19, Tryd.ntmps19
  go_upto_region 1 with fail
  generalize w.alloc (.cells #[.int .i64 s, .int .i64 a, .int .i64 c, .int .i64 d, .int .i64 g, .int .i64 k] 23) = w0 at *
  obtain ⟨l0, l1, l2, l3, l4, l5⟩ := hh.cells
  go_wp2_with (go_at_call 34; refine (c1 _).mono ?_; rintro e w1 ⟨rfl, b⟩; replace bel := seq_below bel b)
  go_ret
  exact ⟨rfl, bel⟩

set_option maxHeartbeats 1000000 in
theorem newMake_not {s a c d g k : Int} (hr : rightB s a c d g k = true) (kind ar ep : Int) (hm : mayB a kind ar = false) (v : Value) (w : World) :
    Calls Tryd.prog 19 #[.agg (cs s a c d g k), .int .i64 kind, .int .i64 ar, .int .u64 ep, v] w fun e w' => e = .returned (.pointer none) ∧ Below w.heap.size w w' := by
  have c1 := right_any s a c d g k
  rw [hr] at c1
  have c2 := may_any s a c d g k kind ar
  rw [hm] at c2
  clear hr hm
  have bel := alloc_below w (.cells #[.int .i64 s, .int .i64 a, .int .i64 c, .int .i64 d, .int .i64 g, .int .i64 k] 23)
  have hh := cfg_new w s a c d g k
  go_enter Tryd.func19, Tryd.ntmps19
  go_upto_region 1 with fail
  generalize w.alloc (.cells #[.int .i64 s, .int .i64 a, .int .i64 c, .int .i64 d, .int .i64 g, .int .i64 k] 23) = w0 at *
  obtain ⟨l0, l1, l2, l3, l4, l5⟩ := hh.cells
  go_wp2_with (first
    | (go_at_call 34; refine (c1 _).mono ?_; rintro e w1 ⟨rfl, b⟩; replace bel := seq_below bel b; replace hh := hh.below b; clear l0 l1 l2 l3 l4 l5; obtain ⟨l0, l1, l2, l3, l4, l5⟩ := hh.cells)
    | (go_at_call 44; refine (c2 _).mono ?_; rintro e w1 ⟨rfl, b⟩; replace bel := seq_below bel b))
  go_ret
  exact ⟨rfl, bel⟩

set_option maxHeartbeats 1000000 in
theorem newMake_long {K : Cf} (hK : K.Ok) (kind ar ep : Int) (hm : mayB K.a kind ar = true) (ad : Option Addr) (n cap : Nat) (hn : K.B < n) (w : World) :
    Calls Tryd.prog 19 #[.agg K.cs, .int .i64 kind, .int .i64 ar, .int .u64 ep, .slice ad n cap] w fun e w' => e = .returned (.pointer none) ∧ Below w.heap.size w w' := by
  have c1 := right_any K.S K.a K.C K.D K.g K.k
  rw [hK.r] at c1
  have c2 := may_any K.S K.a K.C K.D K.g K.k kind ar
  rw [hm] at c2
  have c3 := bodySize_yes hK
  have hlt : (K.B : Int) < (n : Int) := by omega
  clear hm hn
  have bel := alloc_below w (.cells #[.int .i64 (K.S : Nat), .int .i64 K.a, .int .i64 (K.C : Nat), .int .i64 (K.D : Nat), .int .i64 K.g, .int .i64 K.k] 23)
  have hh := cfg_new w K.S K.a K.C K.D K.g K.k
  go_enter Tryd.func19, Tryd.ntmps19
  go_upto_region 1 with fail
  generalize w.alloc (.cells #[.int .i64 (K.S : Nat), .int .i64 K.a, .int .i64 (K.C : Nat), .int .i64 (K.D : Nat), .int .i64 K.g, .int .i64 K.k] 23) = w0 at *
  obtain ⟨l0, l1, l2, l3, l4, l5⟩ := hh.cells
  go_wp2_with (first
    | (go_at_call 34; refine (c1 _).mono ?_; rintro e w1 ⟨rfl, b⟩; replace bel := seq_below bel b; replace hh := hh.below b; clear l0 l1 l2 l3 l4 l5; obtain ⟨l0, l1, l2, l3, l4, l5⟩ := hh.cells)
    | (go_at_call 44; refine (c2 _).mono ?_; rintro e w1 ⟨rfl, b⟩; replace bel := seq_below bel b; replace hh := hh.below b; clear l0 l1 l2 l3 l4 l5; obtain ⟨l0, l1, l2, l3, l4, l5⟩ := hh.cells)
    | (go_at_call 45; refine (c3 _).mono ?_; rintro e w1 ⟨rfl, b⟩; replace bel := seq_below bel b))
  go_ret
  exact ⟨rfl, bel⟩

/-- A Make as it is made. -/
def mk0 (kind ar ep R B : Nat) (Y : List Nat) : Mk := ⟨-1, false, kind, ar, ep, R, fillW B Y, ⟨-1, false, 0, 0, 0⟩, 0, 0, 0⟩

set_option maxRecDepth 100000 in
set_option maxHeartbeats 4000000 in
theorem newMake_yes {K : Cf} (hK : K.Ok) (kind ar ep : Nat) (hm : mayB K.a kind ar = true) {w : World} {ad : Option Addr} {n cap : Nat} {Y : List Nat} (hY : SrW w ad Y) (hl : Y.length = n) (hn : n ≤ K.B) :
    Calls Tryd.prog 19 #[.agg K.cs, .int .i64 (kind : Nat), .int .i64 (ar : Nat), .int .u64 (ep : Nat), .slice ad n cap] w fun e w' => ∃ P R c, e = .returned (.pointer (some ⟨P, 0, none⟩)) ∧ NewBlk w w' P c 60 ∧ MkAt c K (mk0 kind ar ep R K.B Y) ∧ IsWords w' R (fillW K.B Y) ∧ w.heap.size ≤ R ∧ R ≠ P := by
  have c1 := right_any K.S K.a K.C K.D K.g K.k
  rw [hK.r] at c1
  have c2 := may_any K.S K.a K.C K.D K.g K.k kind ar
  rw [hm] at c2
  have c3 := bodySize_yes hK
  have c4 : ∀ wr, SrW wr ad Y → Calls Tryd.prog 46 #[.agg K.cs, .slice ad n cap] wr fun e w' => ∃ R, e = .returned (.slice (some ⟨R, 0, none⟩) K.B K.B) ∧ IsWords w' R (fillW K.B Y) ∧ wr.heap.size ≤ R ∧ Below wr.heap.size wr w' := fun wr h => filled_any hK h hl
  have c5 := newPop_yes hK.r
  have hlt : ¬ (K.B : Int) < (n : Int) := by omega
  have HM : Hid (∀ R, MkAt #[.int .i64 (-1), .bool false, .int .i64 (K.S : Nat), .int .i64 K.a, .int .i64 (K.C : Nat), .int .i64 (K.D : Nat), .int .i64 K.g, .int .i64 K.k, .int .i64 (kind : Nat), .int .i64 (ar : Nat), .int .u64 (ep : Nat), .slice (some ⟨R, 0, none⟩) K.B K.B, .int .i64 (-1), .bool false, .int .i64 (K.S : Nat), .int .i64 K.a, .int .i64 (K.C : Nat), .int .i64 (K.D : Nat), .int .i64 K.g, .int .i64 K.k, .int .i64 0, .int .u64 0, .int .i64 0, .int .i64 0, .int .i64 0, .int .i64 0] K (mk0 kind ar ep R K.B Y)) := fun R => ⟨rfl, rfl, rfl, rfl, rfl, rfl, rfl, rfl, rfl, rfl, rfl, by show _ = some (Value.slice _ (fillW K.B Y).length (fillW K.B Y).length); rw [fillW_len]; rfl, ⟨rfl, rfl, rfl, rfl, rfl, rfl, rfl, rfl, rfl, rfl, rfl⟩, rfl, rfl, rfl⟩
  clear hm hn hl
  have bel := alloc_below w (.cells #[.int .i64 (K.S : Nat), .int .i64 K.a, .int .i64 (K.C : Nat), .int .i64 (K.D : Nat), .int .i64 K.g, .int .i64 K.k] 23)
  have hh := cfg_new w K.S K.a K.C K.D K.g K.k
  have HY : Hid (SrW _ ad Y) := hY.below bel
  clear hY
  go_enter Tryd.func19, Tryd.ntmps19
  go_upto_region 1 with fail
  generalize w.alloc (.cells #[.int .i64 (K.S : Nat), .int .i64 K.a, .int .i64 (K.C : Nat), .int .i64 (K.D : Nat), .int .i64 K.g, .int .i64 K.k] 23) = w0 at *
  obtain ⟨l0, l1, l2, l3, l4, l5⟩ := hh.cells
  go_upto_region 3 with (first
    | (go_at_call 34; refine (c1 _).mono ?_; rintro e w1 ⟨rfl, b⟩; replace bel := seq_below bel b; replace hh := hh.below b; replace HY : Hid (SrW _ ad Y) := HY.out.below b; clear l0 l1 l2 l3 l4 l5; obtain ⟨l0, l1, l2, l3, l4, l5⟩ := hh.cells)
    | (go_at_call 44; refine (c2 _).mono ?_; rintro e w1 ⟨rfl, b⟩; replace bel := seq_below bel b; replace hh := hh.below b; replace HY : Hid (SrW _ ad Y) := HY.out.below b; clear l0 l1 l2 l3 l4 l5; obtain ⟨l0, l1, l2, l3, l4, l5⟩ := hh.cells)
    | (go_at_call 45; refine (c3 _).mono ?_; rintro e w1 ⟨rfl, b⟩; replace bel := seq_below bel b; replace hh := hh.below b; replace HY : Hid (SrW _ ad Y) := HY.out.below b; clear l0 l1 l2 l3 l4 l5))
  clear c1 c2 c3 b
  replace hh := hh.below (Below.refl _ _).drew
  replace HY : Hid (SrW _ ad Y) := HY.out.below (Below.refl _ _).drew
  replace bel := bel.drew
  have hS0 := hh.cells
  refine wp_region_held_drew (S := fun wr => wr.cell? ⟨w.heap.size, 0, none⟩ = some (.int .i64 (K.S : Nat)) ∧ wr.cell? ⟨w.heap.size, 1, none⟩ = some (.int .i64 K.a) ∧ wr.cell? ⟨w.heap.size, 2, none⟩ = some (.int .i64 (K.C : Nat)) ∧ wr.cell? ⟨w.heap.size, 3, none⟩ = some (.int .i64 (K.D : Nat)) ∧ wr.cell? ⟨w.heap.size, 4, none⟩ = some (.int .i64 K.g) ∧ wr.cell? ⟨w.heap.size, 5, none⟩ = some (.int .i64 K.k)) (by kernel_rfl) hS0 (fun hS1 => ?_)
  clear hS0
  refine wpAnyH_take (i := 0) (oi := { dst := some 28, op := Go.Op.load 23 (Go.Operand.tmp 5), type := 23, pos := "arena.go:88", after := #[], guard := none }) (v := .agg #[.int .i64 (K.S : Nat), .int .i64 K.a, .int .i64 (K.C : Nat), .int .i64 (K.D : Nat), .int .i64 K.g, .int .i64 K.k]) rfl (by kernel_rfl) (by kernel_rfl) (by kernel_rfl) (fun _ _ _ h => h) (Or.inl ⟨by rfl, fun w hSw => by (try dsimp only at hSw); go_simp⟩) hS1 ?_
  simp only [Act.put, List.setIfInBounds_toArray, List.set_cons_zero, List.set_cons_succ]
  refine wpAnyH_take (i := 1) (oi := { dst := some 29, op := Go.Op.move (Go.Operand.tmp 1), type := 3, pos := "arena.go:88", after := #[], guard := none }) (v := .int .i64 (kind : Nat)) rfl (by kernel_rfl) (by kernel_rfl) (by kernel_rfl) (fun _ _ _ h => h) (Or.inl ⟨by rfl, fun w hSw => by (try dsimp only at hSw); go_simp⟩) hS1 ?_
  simp only [Act.put, List.setIfInBounds_toArray, List.set_cons_zero, List.set_cons_succ]
  refine wpAnyH_take (i := 2) (oi := { dst := some 30, op := Go.Op.move (Go.Operand.tmp 2), type := 3, pos := "arena.go:88", after := #[], guard := none }) (v := .int .i64 (ar : Nat)) rfl (by kernel_rfl) (by kernel_rfl) (by kernel_rfl) (fun _ _ _ h => h) (Or.inl ⟨by rfl, fun w hSw => by (try dsimp only at hSw); go_simp⟩) hS1 ?_
  simp only [Act.put, List.setIfInBounds_toArray, List.set_cons_zero, List.set_cons_succ]
  refine wpAnyH_take (i := 3) (oi := { dst := some 31, op := Go.Op.move (Go.Operand.tmp 3), type := 35, pos := "arena.go:88", after := #[], guard := none }) (v := .int .u64 (ep : Nat)) rfl (by kernel_rfl) (by kernel_rfl) (by kernel_rfl) (fun _ _ _ h => h) (Or.inl ⟨by rfl, fun w hSw => by (try dsimp only at hSw); go_simp⟩) hS1 ?_
  simp only [Act.put, List.setIfInBounds_toArray, List.set_cons_zero, List.set_cons_succ]
  refine wpAnyH_take (i := 4) (oi := { dst := some 32, op := Go.Op.load 23 (Go.Operand.tmp 5), type := 23, pos := "arena.go:88", after := #[], guard := none }) (v := .agg #[.int .i64 (K.S : Nat), .int .i64 K.a, .int .i64 (K.C : Nat), .int .i64 (K.D : Nat), .int .i64 K.g, .int .i64 K.k]) rfl (by kernel_rfl) (by kernel_rfl) (by kernel_rfl) (fun _ _ _ h => h) (Or.inl ⟨by rfl, fun w hSw => by (try dsimp only at hSw); go_simp⟩) hS1 ?_
  simp only [Act.put, List.setIfInBounds_toArray, List.set_cons_zero, List.set_cons_succ]
  refine wpAnyH_take (i := 5) (oi := { dst := some 33, op := Go.Op.move (Go.Operand.tmp 4), type := 44, pos := "arena.go:88", after := #[], guard := none }) (v := .slice ad n cap) rfl (by kernel_rfl) (by kernel_rfl) (by kernel_rfl) (fun _ _ _ h => h) (Or.inl ⟨by rfl, fun w hSw => by (try dsimp only at hSw); go_simp⟩) hS1 ?_
  simp only [Act.put, List.setIfInBounds_toArray, List.set_cons_zero, List.set_cons_succ]
  refine wpAnyH_take (i := 7) (oi := { dst := some 35, op := Go.Op.load 23 (Go.Operand.tmp 5), type := 23, pos := "arena.go:88", after := #[], guard := none }) (v := .agg #[.int .i64 (K.S : Nat), .int .i64 K.a, .int .i64 (K.C : Nat), .int .i64 (K.D : Nat), .int .i64 K.g, .int .i64 K.k]) rfl (by kernel_rfl) (by kernel_rfl) (by kernel_rfl) (fun _ _ _ h => h) (Or.inl ⟨by rfl, fun w hSw => by (try dsimp only at hSw); go_simp⟩) hS1 ?_
  simp only [Act.put, List.setIfInBounds_toArray, List.set_cons_zero, List.set_cons_succ]
  refine wpAnyH_ready (rs := [6]) (by kernel_rfl) (by simp) (AllReadyH.cons (o := { dst := some 34, op := Go.Op.call { callee := Go.Callee.value (Go.Operand.func 46), args := #[Go.Operand.tmp 32, Go.Operand.tmp 33], argTypes := #[23, 44] }, type := 44, pos := "arena.go:88", after := #[{ on := 4, ground := Go.Ground.data }, { on := 5, ground := Go.Ground.data }], guard := none }) rfl (fun K1 hK => ?_) AllReadyH.nil)
  go_simp
  go_at_call 46
  with_reducible refine (c4 _ HY.out).mono ?_
  rintro e w4 ⟨R, rfl, hR, hRl, b⟩
  (try simp only [])
  replace hh := hh.below b
  have hRs : w.heap.size ≤ R := by have := bel.size; omega
  replace bel := seq_below bel b
  have HR : Hid (IsWords w4 R (fillW K.B Y)) := hR
  have hRlt : R < w4.heap.size := lt_of_block (show w4.heap[R]? = _ from hR)
  refine hK.out _ _ hh.cells (fun hS1 => ?_)
  (try simp only [Act.put, List.setIfInBounds_toArray, List.set_cons_zero, List.set_cons_succ])
  clear hK hR
  refine wpAnyH_ready (rs := [8]) (by kernel_rfl) (by simp) (AllReadyH.cons (o := { dst := some 36, op := Go.Op.call { callee := Go.Callee.value (Go.Operand.func 47), args := #[Go.Operand.tmp 35], argTypes := #[23] }, type := 95, pos := "arena.go:88", after := #[{ on := 7, ground := Go.Ground.data }, { on := 6, ground := Go.Ground.chain }], guard := none }) rfl (fun K1 hK => ?_) AllReadyH.nil)
  go_simp
  go_at_call 47
  with_reducible refine (c5 _).mono ?_
  rintro e w5 ⟨Q, rfl, hq, hQ, b⟩
  (try simp only [])
  replace hh := hh.below b
  replace bel := seq_below bel b
  replace HR : Hid (IsWords w5 R (fillW K.B Y)) := words_below HR.out b
  have hR5 : R < w5.heap.size := Nat.lt_of_lt_of_le hRlt b.size
  obtain ⟨m0, m1, m2, m3, m4, m5, m6, m7, m8, m9, m10⟩ := hq.cells
  refine hK.out _ _ hh.cells (fun hS1 => ?_)
  (try simp only [Act.put, List.setIfInBounds_toArray, List.set_cons_zero, List.set_cons_succ])
  clear hK
  refine wpAnyH_take (i := 9) (oi := { dst := some 37, op := Go.Op.nilCheck (Go.Operand.tmp 36), type := 0, pos := "arena.go:88", after := #[{ on := 8, ground := Go.Ground.data }], guard := none }) (v := .pointer (some ⟨Q, 0, none⟩)) rfl (by kernel_rfl) (by kernel_rfl) (by kernel_rfl) (fun _ _ _ h => h) (Or.inl ⟨by rfl, fun w hSw => by (try dsimp only at hSw); go_simp⟩) hS1 ?_
  simp only [Act.put, List.setIfInBounds_toArray, List.set_cons_zero, List.set_cons_succ]
  refine wpAnyH_ready (rs := [10]) (by kernel_rfl) (by simp) (AllReadyH.cons (o := { dst := some 38, op := Go.Op.load 58 (Go.Operand.tmp 37), type := 58, pos := "arena.go:88", after := #[{ on := 9, ground := Go.Ground.data }], guard := none }) rfl (fun K1 hK => ?_) AllReadyH.nil)
  go_simp
  refine hK.out _ _ hh.cells (fun hS1 => ?_)
  (try simp only [Act.put, List.setIfInBounds_toArray, List.set_cons_zero, List.set_cons_succ])
  clear hK m0 m1 m2 m3 m4 m5 m6 m7 m8 m9 m10
  refine wpAnyH_take (i := 11) (oi := { dst := some 39, op := Go.Op.build 60 #[(0, Go.Operand.const (Go.Value.int Go.IntKind.i64 (-1))), (2, Go.Operand.tmp 28), (3, Go.Operand.tmp 29), (4, Go.Operand.tmp 30), (5, Go.Operand.tmp 31), (6, Go.Operand.tmp 34), (7, Go.Operand.tmp 38)], type := 60, pos := "arena.go:88", after := #[{ on := 0, ground := Go.Ground.data }, { on := 1, ground := Go.Ground.data }, { on := 2, ground := Go.Ground.data }, { on := 3, ground := Go.Ground.data }, { on := 6, ground := Go.Ground.data }, { on := 10, ground := Go.Ground.data }], guard := none }) (v := .agg #[.int .i64 (-1), .bool false, .int .i64 (K.S : Nat), .int .i64 K.a, .int .i64 (K.C : Nat), .int .i64 (K.D : Nat), .int .i64 K.g, .int .i64 K.k, .int .i64 (kind : Nat), .int .i64 (ar : Nat), .int .u64 (ep : Nat), .slice (some ⟨R, 0, none⟩) K.B K.B, .int .i64 (-1), .bool false, .int .i64 (K.S : Nat), .int .i64 K.a, .int .i64 (K.C : Nat), .int .i64 (K.D : Nat), .int .i64 K.g, .int .i64 K.k, .int .i64 0, .int .u64 0, .int .i64 0, .int .i64 0, .int .i64 0, .int .i64 0]) rfl (by kernel_rfl) (by kernel_rfl) (by kernel_rfl) (fun _ _ _ h => h) (Or.inl ⟨by rfl, fun w hSw => by (try dsimp only at hSw); go_simp⟩) hS1 ?_
  simp only [Act.put, List.setIfInBounds_toArray, List.set_cons_zero, List.set_cons_succ]
  refine wpAnyH_ready (rs := [12]) (by kernel_rfl) (by simp) (AllReadyH.cons (o := { dst := some 40, op := Go.Op.box 60 (Go.Operand.tmp 39), type := 38, pos := "arena.go:88", after := #[{ on := 11, ground := Go.Ground.data }], guard := none }) rfl (fun K1 hK => ?_) AllReadyH.nil)
  go_simp
  have nb : Hid _ := new_obj w5 (.cells #[.int .i64 (-1), .bool false, .int .i64 (K.S : Nat), .int .i64 K.a, .int .i64 (K.C : Nat), .int .i64 (K.D : Nat), .int .i64 K.g, .int .i64 K.k, .int .i64 (kind : Nat), .int .i64 (ar : Nat), .int .u64 (ep : Nat), .slice (some ⟨R, 0, none⟩) K.B K.B, .int .i64 (-1), .bool false, .int .i64 (K.S : Nat), .int .i64 K.a, .int .i64 (K.C : Nat), .int .i64 (K.D : Nat), .int .i64 K.g, .int .i64 K.k, .int .i64 0, .int .u64 0, .int .i64 0, .int .i64 0, .int .i64 0, .int .i64 0] 60)
  have hhA := hh.below (alloc_below w5 (.cells #[.int .i64 (-1), .bool false, .int .i64 (K.S : Nat), .int .i64 K.a, .int .i64 (K.C : Nat), .int .i64 (K.D : Nat), .int .i64 K.g, .int .i64 K.k, .int .i64 (kind : Nat), .int .i64 (ar : Nat), .int .u64 (ep : Nat), .slice (some ⟨R, 0, none⟩) K.B K.B, .int .i64 (-1), .bool false, .int .i64 (K.S : Nat), .int .i64 K.a, .int .i64 (K.C : Nat), .int .i64 (K.D : Nat), .int .i64 K.g, .int .i64 K.k, .int .i64 0, .int .u64 0, .int .i64 0, .int .i64 0, .int .i64 0, .int .i64 0] 60))
  have belA := bel.alloc bel.size (.cells #[.int .i64 (-1), .bool false, .int .i64 (K.S : Nat), .int .i64 K.a, .int .i64 (K.C : Nat), .int .i64 (K.D : Nat), .int .i64 K.g, .int .i64 K.k, .int .i64 (kind : Nat), .int .i64 (ar : Nat), .int .u64 (ep : Nat), .slice (some ⟨R, 0, none⟩) K.B K.B, .int .i64 (-1), .bool false, .int .i64 (K.S : Nat), .int .i64 K.a, .int .i64 (K.C : Nat), .int .i64 (K.D : Nat), .int .i64 K.g, .int .i64 K.k, .int .i64 0, .int .u64 0, .int .i64 0, .int .i64 0, .int .i64 0, .int .i64 0] 60)
  have hRA : Hid _ := words_below HR.out (alloc_below w5 (.cells #[.int .i64 (-1), .bool false, .int .i64 (K.S : Nat), .int .i64 K.a, .int .i64 (K.C : Nat), .int .i64 (K.D : Nat), .int .i64 K.g, .int .i64 K.k, .int .i64 (kind : Nat), .int .i64 (ar : Nat), .int .u64 (ep : Nat), .slice (some ⟨R, 0, none⟩) K.B K.B, .int .i64 (-1), .bool false, .int .i64 (K.S : Nat), .int .i64 K.a, .int .i64 (K.C : Nat), .int .i64 (K.D : Nat), .int .i64 K.g, .int .i64 K.k, .int .i64 0, .int .u64 0, .int .i64 0, .int .i64 0, .int .i64 0, .int .i64 0] 60))
  have hs5 := bel.size
  have hRne : R ≠ w5.heap.size := by omega
  refine hK.out _ _ hhA.cells (fun hS1 => ?_)
  (try simp only [Act.put, List.setIfInBounds_toArray, List.set_cons_zero, List.set_cons_succ])
  clear hK hh bel HR
  generalize w5.alloc (.cells #[.int .i64 (-1), .bool false, .int .i64 (K.S : Nat), .int .i64 K.a, .int .i64 (K.C : Nat), .int .i64 (K.D : Nat), .int .i64 K.g, .int .i64 K.k, .int .i64 (kind : Nat), .int .i64 (ar : Nat), .int .u64 (ep : Nat), .slice (some ⟨R, 0, none⟩) K.B K.B, .int .i64 (-1), .bool false, .int .i64 (K.S : Nat), .int .i64 K.a, .int .i64 (K.C : Nat), .int .i64 (K.D : Nat), .int .i64 K.g, .int .i64 K.k, .int .i64 0, .int .u64 0, .int .i64 0, .int .i64 0, .int .i64 0, .int .i64 0] 60) = w6 at *
  generalize w5.heap.size = P at *
  refine wpAnyH_take (i := 13) (oi := { dst := some 10, op := Go.Op.assign (Go.Operand.tmp 40), type := 38, pos := "arena.go:88", after := #[{ on := 12, ground := Go.Ground.data }, { on := 8, ground := Go.Ground.chain }, { on := 0, ground := Go.Ground.phase }, { on := 1, ground := Go.Ground.phase }, { on := 2, ground := Go.Ground.phase }, { on := 3, ground := Go.Ground.phase }, { on := 4, ground := Go.Ground.phase }, { on := 5, ground := Go.Ground.phase }, { on := 6, ground := Go.Ground.phase }, { on := 7, ground := Go.Ground.phase }, { on := 8, ground := Go.Ground.phase }, { on := 9, ground := Go.Ground.phase }, { on := 10, ground := Go.Ground.phase }, { on := 11, ground := Go.Ground.phase }, { on := 12, ground := Go.Ground.phase }], guard := none }) (v := .pointer (some ⟨P, 0, none⟩)) rfl (by kernel_rfl) (by kernel_rfl) (by kernel_rfl) (fun _ _ _ h => h) (Or.inl ⟨by rfl, fun w hSw => by (try dsimp only at hSw); go_simp⟩) hS1 ?_
  simp only [Act.put, List.setIfInBounds_toArray, List.set_cons_zero, List.set_cons_succ]
  refine wpAnyH_done (by kernel_rfl) ?_ _
  clear hS1
  go_wp2
  go_ret
  exact ⟨P, R, _, rfl, ⟨nb.out, hs5, belA⟩, HM.out R, hRA.out, hRs, hRne⟩

end Go.Proofs.YtjbjijkkmlehgaaDoor
