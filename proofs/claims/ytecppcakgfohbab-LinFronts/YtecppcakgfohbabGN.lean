/- lin.Search. -/
import Derived.Test.YtecppcakgfohbabGM
import Derived.OwnWalk
import Derived.Test.YtecppcakgfohbabHL
import Derived.Test.YtecppcakgfohbabHN
import Derived.Test.YtecppcakgfohbabGV
import Derived.WalkKit
import Derived.ProofKit
import Derived.OpenShut
import Derived.ShutString
import Derived.ChangeOld
import Derived.Below
import Derived.Deep.Slices
namespace Go.Proofs.Ytecppcakgfohbab
open Go.RowKit
set_option linter.unusedSimpArgs false
set_option linter.unusedVariables false

set_option maxRecDepth 100000 in
set_option maxHeartbeats 4000000 in
theorem Search_out {w : World} (s a c d g k : Int) {ad : Option Addr} {lE : Nat} (cap : Nat) (h : rightB s a c d g k = false ∨ (rightB s a c d g k = true ∧ 7 < lE)) :
    Calls Try.prog 7 #[.agg (cs s a c d g k), .slice ad lE cap] w fun r w' => r = .returned (.tuple #[.slice none 0 0, .bool false, .int .i64 (if rightB s a c d g k = true then 10 else 1)]) ∧ Below w.heap.size w w' := by
  have cR := right_any s a c d g k
  obtain ⟨rb, hrb⟩ : ∃ rb, rightB s a c d g k = rb := ⟨_, rfl⟩
  rw [hrb] at cR h ⊢
  clear hrb
  have bx := alloc_below w (.cells (cs s a c d g k) 23)
  have hq := new_obj w (.cells (cs s a c d g k) 23)
  unfold cs at *
  go_enter Try.func7, Try.ntmps7
  go_upto_region 1 with fail
  generalize World.alloc _ _ = w1 at *
  obtain ⟨bc, hbc⟩ : ∃ bc, w.heap.size = bc := ⟨_, rfl⟩
  rw [hbc] at hq ⊢
  replace hbc := hid1 hbc
  obtain ⟨s0, s1, s2, s3, s4, s5⟩ : w1.cell? ⟨bc, 0, none⟩ = some (.int .i64 s) ∧ w1.cell? ⟨bc, 1, none⟩ = some (.int .i64 a) ∧ w1.cell? ⟨bc, 2, none⟩ = some (.int .i64 c) ∧ w1.cell? ⟨bc, 3, none⟩ = some (.int .i64 d) ∧ w1.cell? ⟨bc, 4, none⟩ = some (.int .i64 g) ∧ w1.cell? ⟨bc, 5, none⟩ = some (.int .i64 k) := by simp [World.cell?, hq]
  clear hq
  cases rb with
  | false =>
    clear h
    go_wp2_with (go_at_call 15; with_reducible refine (cR _).mono ?_; rintro e w2 ⟨rfl, b2⟩)
    go_ret3
    exact ⟨rfl, hbc.out ▸ seq_below bx b2⟩
  | true =>
    have h7 : 7 < lE := h.elim (fun q => by cases q) (fun q => q.2)
    have h7z : (7 : Int) < (lE : Int) := by omega
    clear h h7
    go_wp2_with (go_at_call 15; with_reducible refine (cR _).mono ?_; rintro e w2 ⟨rfl, b2⟩)
    go_ret3
    exact ⟨rfl, hbc.out ▸ seq_below bx b2⟩
set_option maxRecDepth 100000 in
set_option maxHeartbeats 4000000 in
theorem Search_any {w : World} (C : Cg) (hR : rightB C.s C.a (C.c : Nat) C.d C.g C.k = true) {ad : Option Addr} {lE : Nat} (cap : Nat) {E : List Ev} (hl : lE = E.length) (hE : RdEv w ad E) (hI : ∀ e ∈ E, e.In) (hl7 : lE ≤ 7) :
    Calls Try.prog 7 #[.agg (cs C.s C.a (C.c : Nat) C.d C.g C.k), .slice ad lE cap] w fun r w' => Below w.heap.size w w' ∧
      ((∃ (O : List Nat) (ao : Option Addr) (co : Nat), r = .returned (.tuple #[.slice ao lE co, .bool true, .int .i64 0]) ∧ O.length = lE ∧ IsZ w' (.slice ao lE co) (zI O) ∧ Gd C E O ∧ Tri C E O 0) ∨
       (r = .returned (.tuple #[.slice none 0 0, .bool false, .int .i64 0]) ∧ ∀ P, Gd C E P → P.length ≠ E.length)) := by
  have cR := right_any C.s C.a (C.c : Nat) C.d C.g C.k
  have cS := hid1 fun (wr : World) (b : Below w.heap.size w wr) => search_any C hR cap hl (hE.below b) hI hl7
  rw [hR] at cR
  have bx := alloc_below w (.cells (cs C.s C.a (C.c : Nat) C.d C.g C.k) 23)
  have hq := new_obj w (.cells (cs C.s C.a (C.c : Nat) C.d C.g C.k) 23)
  have h7z : ¬ (7 : Int) < (lE : Int) := by omega
  replace hl := hid1 hl
  clear hE hI hl7 hR
  unfold cs at *
  go_enter Try.func7, Try.ntmps7
  go_upto_region 1 with fail
  generalize World.alloc _ _ = w1 at *
  obtain ⟨bc, hbc⟩ : ∃ bc, w.heap.size = bc := ⟨_, rfl⟩
  rw [hbc] at hq ⊢
  replace hbc := hid1 hbc
  obtain ⟨s0, s1, s2, s3, s4, s5⟩ : w1.cell? ⟨bc, 0, none⟩ = some (.int .i64 C.s) ∧ w1.cell? ⟨bc, 1, none⟩ = some (.int .i64 C.a) ∧ w1.cell? ⟨bc, 2, none⟩ = some (.int .i64 (C.c : Nat)) ∧ w1.cell? ⟨bc, 3, none⟩ = some (.int .i64 C.d) ∧ w1.cell? ⟨bc, 4, none⟩ = some (.int .i64 C.g) ∧ w1.cell? ⟨bc, 5, none⟩ = some (.int .i64 C.k) := by simp [World.cell?, hq]
  go_upto_region 3 with (go_at_call 15; with_reducible refine (cR _).mono ?_; rintro e w2 ⟨rfl, b2⟩)
  have bel := seq_below bx b2
  have ksz := lt_of_block hq
  have hq2 := (b2.block _ ksz).trans hq
  clear hq s0 s1 s2 s3 s4 s5 b2 bx cR ksz
  obtain ⟨s0, s1, s2, s3, s4, s5⟩ : w2.cell? ⟨bc, 0, none⟩ = some (.int .i64 C.s) ∧ w2.cell? ⟨bc, 1, none⟩ = some (.int .i64 C.a) ∧ w2.cell? ⟨bc, 2, none⟩ = some (.int .i64 (C.c : Nat)) ∧ w2.cell? ⟨bc, 3, none⟩ = some (.int .i64 C.d) ∧ w2.cell? ⟨bc, 4, none⟩ = some (.int .i64 C.g) ∧ w2.cell? ⟨bc, 5, none⟩ = some (.int .i64 C.k) := by simp [World.cell?, hq2]
  clear hq2
  replace cS := hid1 (cS.out _ bel)
  unfold cs at cS
  go_upto_region 6 with (go_at_call 16; with_reducible refine cS.out.mono ?_; rintro r w3 ⟨b3, hr⟩; replace b3 := hid1 b3; rcases hr with ⟨O, ao, co, rfl, h1, h2, h3, h4⟩ | ⟨rfl, h1⟩)
  · have B := hid1 (seq_below bel b3.out)
    have H := hid1 (And.intro h1 (And.intro h2 (And.intro h3 h4)))
    clear h1 h2 h3 h4 cS b3 s0 s1 s2 s3 s4 s5
    go_wp2
    go_ret3
    exact ⟨B.out, .inl ⟨O, ao, co, rfl, H.out⟩⟩
  · have B := hid1 (seq_below bel b3.out)
    replace h1 := hid1 h1
    clear cS b3 s0 s1 s2 s3 s4 s5
    go_wp2
    go_ret3
    exact ⟨B.out, .inr ⟨rfl, h1.out⟩⟩
end Go.Proofs.Ytecppcakgfohbab
/- lin.Points. -/
namespace Go.Proofs.Ytecppcakgfohbab
open Go.RowKit Go.Sort
set_option linter.unusedSimpArgs false
set_option linter.unusedVariables false

set_option maxRecDepth 100000 in
set_option maxHeartbeats 4000000 in
theorem horder_any {w : World} {ad : Option Addr} {n : Nat} (cap : Nat) {E : List Ev} (hE : n = E.length) (hR : RdEv w ad E) (hn : n < 400000000) :
    Calls Try.prog 22 #[.slice ad n cap] w fun r w' => ∃ a, (r = .returned (.slice a n n)) ∧ (∃ l, IsOrd (ltN (evP E)) n l ∧ RdZ w' a (zI l)) ∧ Below w.heap.size w w' := by
  have cs := hid1 (sortP_any cap hE hR hn)
  clear hR hE
  go_enter Try.func22, Try.ntmps22
  go_wp2_with (go_at_call 34; refine cs.out.mono ?_; rintro e w' ⟨a, l, rfl, O, Z, b⟩; replace O := hid1 O; replace Z := hid1 Z)
  go_ret
  exact ⟨a, rfl, ⟨l, O.out, Z.out⟩, b⟩
theorem cfg_cells {w : World} {B : Nat} {s a c d g k : Int} (h : w.heap[B]? = some (.cells #[.int .i64 s, .int .i64 a, .int .i64 c, .int .i64 d, .int .i64 g, .int .i64 k] 23 (0, 0))) : w.cell? ⟨B, 0, none⟩ = some (.int .i64 s) ∧ w.cell? ⟨B, 1, none⟩ = some (.int .i64 a) ∧ w.cell? ⟨B, 2, none⟩ = some (.int .i64 c) ∧ w.cell? ⟨B, 3, none⟩ = some (.int .i64 d) ∧ w.cell? ⟨B, 4, none⟩ = some (.int .i64 g) ∧ w.cell? ⟨B, 5, none⟩ = some (.int .i64 k) := by simp [World.cell?, h]
theorem replay_at {w : World} (C : Cg) (hR : rightB C.s C.a (C.c : Nat) C.d C.g C.k = true) {ad ao : Option Addr} {E : List Ev} {n m : Nat} (cap capo : Nat) (hn : n = E.length) (hE : RdEv w ad E) (hI : ∀ e ∈ E, e.In) {Z : List Int} (hm : m = Z.length) (hZ : RdZ w ao Z) (hl : m ≤ 100000) :
    Calls Try.prog 14 #[.agg (cs C.s C.a (C.c : Nat) C.d C.g C.k), .slice ad n cap, .slice ao m capo] w fun r w' => r = .returned (.int .i64 (repF C E Z (sx0 C.c) : Nat)) ∧ Below w.heap.size w w' := by
  subst hn
  subst hm
  exact replay_yes C hR cap capo hE hI hZ hl
set_option maxRecDepth 100000 in
set_option maxHeartbeats 4000000 in
theorem Points_no {w : World} (s a c d g k : Int) (hR : rightB s a c d g k = false) {ad : Option Addr} {n : Nat} (cap : Nat) :
    Calls Try.prog 13 #[.agg (cs s a c d g k), .slice ad n cap] w fun r w' => r = .returned (.bool false) ∧ Below w.heap.size w w' := by
  have cR := right_any s a c d g k
  rw [hR] at cR
  clear hR
  have bx := alloc_below w (.cells (cs s a c d g k) 23)
  have hq := new_obj w (.cells (cs s a c d g k) 23)
  unfold cs at *
  replace cR := hid1 cR
  go_enter Try.func13, Try.ntmps13
  go_upto_region 1 with fail
  generalize World.alloc _ _ = w1 at *
  generalize w.heap.size = bc at hq ⊢
  refine wp_region_held_drew (S := fun wr => wr.heap[bc]? = some (.cells #[.int .i64 s, .int .i64 a, .int .i64 c, .int .i64 d, .int .i64 g, .int .i64 k] 23 (0, 0)) ∧ Below w.heap.size w wr) (by kernel_rfl) ⟨hq, bx.drew⟩ (fun hS1 => ?_)
  clear hq bx
  generalize World.drew _ = w4 at *
  refine wpAnyH_take (i := 0) (oi := { dst := some 5, op := Go.Op.load 23 (Go.Operand.tmp 2), type := 23, pos := "lin.go:32", after := #[], guard := none }) (v := .agg #[.int .i64 s, .int .i64 a, .int .i64 c, .int .i64 d, .int .i64 g, .int .i64 k]) rfl (by kernel_rfl) (by kernel_rfl) (by kernel_rfl) (fun _ _ _ h => h) (Or.inl ⟨by rfl, fun w hSw => by (try dsimp only at hSw); obtain ⟨s0, s1, s2, s3, s4, s5⟩ := cfg_cells hSw.1; go_simp⟩) hS1 ?_
  simp only [Act.put, List.setIfInBounds_toArray, List.set_cons_zero, List.set_cons_succ]
  refine wpAnyH_ready (rs := [1]) (by kernel_rfl) (by simp) (AllReadyH.cons (o := { dst := some 6, op := Go.Op.call { callee := Go.Callee.value (Go.Operand.func 15), args := #[Go.Operand.tmp 5], argTypes := #[23] }, type := 4, pos := "lin.go:32", after := #[{ on := 0, ground := Go.Ground.data }], guard := none }) rfl (fun K hK => ?_) AllReadyH.nil)
  go_simp
  go_at_call 15
  with_reducible refine (cR.out _).mono ?_
  rintro r w5 ⟨rfl, b5⟩
  (try simp only [])
  refine hK.out _ _ ⟨(b5.block _ (lt_of_block hS1.1)).trans hS1.1, seq_below hS1.2 b5⟩ (fun hS1 => ?_)
  (try simp only [Act.put, List.setIfInBounds_toArray, List.set_cons_zero, List.set_cons_succ])
  clear hK K b5
  refine wpAnyH_take (i := 2) (oi := { dst := some 7, op := Go.Op.move (Go.Operand.tmp 6), type := 4, pos := "lin.go:32", after := #[{ on := 1, ground := Go.Ground.data }, { on := 1, ground := Go.Ground.chain }], guard := none }) (v := .bool false) rfl (by kernel_rfl) (by kernel_rfl) (by kernel_rfl) (fun _ _ _ h => h) (Or.inl ⟨by rfl, fun w hSw => by (try dsimp only at hSw); go_simp⟩) hS1 ?_
  simp only [Act.put, List.setIfInBounds_toArray, List.set_cons_zero, List.set_cons_succ]
  refine wpAnyH_take (i := 3) (oi := { dst := some 8, op := Go.Op.move (Go.Operand.tmp 1), type := 24, pos := "lin.go:32", after := #[{ on := 2, ground := Go.Ground.guard }], guard := some (2, true) }) (v := undef) rfl (by kernel_rfl) (by kernel_rfl) (by kernel_rfl) (fun _ _ _ h => h) (Or.inr ⟨by rfl, rfl⟩) hS1 ?_
  simp only [Act.put, List.setIfInBounds_toArray, List.set_cons_zero, List.set_cons_succ]
  refine wpAnyH_take (i := 4) (oi := { dst := some 9, op := Go.Op.fieldAddr 23 (Go.Operand.tmp 2) 2, type := 0, pos := "lin.go:32", after := #[{ on := 2, ground := Go.Ground.guard }], guard := some (2, true) }) (v := undef) rfl (by kernel_rfl) (by kernel_rfl) (by kernel_rfl) (fun _ _ _ h => h) (Or.inr ⟨by rfl, rfl⟩) hS1 ?_
  simp only [Act.put, List.setIfInBounds_toArray, List.set_cons_zero, List.set_cons_succ]
  refine wpAnyH_take (i := 5) (oi := { dst := some 10, op := Go.Op.load 3 (Go.Operand.tmp 9), type := 3, pos := "lin.go:32", after := #[{ on := 4, ground := Go.Ground.data }, { on := 2, ground := Go.Ground.guard }], guard := some (2, true) }) (v := undef) rfl (by kernel_rfl) (by kernel_rfl) (by kernel_rfl) (fun _ _ _ h => h) (Or.inr ⟨by rfl, rfl⟩) hS1 ?_
  simp only [Act.put, List.setIfInBounds_toArray, List.set_cons_zero, List.set_cons_succ]
  refine wpAnyH_take (i := 6) (oi := { dst := some 11, op := Go.Op.call { callee := Go.Callee.value (Go.Operand.func 21), args := #[Go.Operand.tmp 8, Go.Operand.tmp 10], argTypes := #[24, 3] }, type := 4, pos := "lin.go:32", after := #[{ on := 3, ground := Go.Ground.data }, { on := 5, ground := Go.Ground.data }, { on := 2, ground := Go.Ground.chain }, { on := 2, ground := Go.Ground.guard }], guard := some (2, true) }) (v := undef) rfl (by kernel_rfl) (by kernel_rfl) (by kernel_rfl) (fun _ _ _ h => h) (Or.inr ⟨by rfl, rfl⟩) hS1 ?_
  simp only [Act.put, List.setIfInBounds_toArray, List.set_cons_zero, List.set_cons_succ]
  refine wpAnyH_take (i := 7) (oi := { dst := some 12, op := Go.Op.pick (Go.Operand.tmp 7) (Go.Operand.tmp 11) (Go.Operand.const (Go.Value.bool false)), type := 4, pos := "lin.go:32", after := #[{ on := 2, ground := Go.Ground.data }, { on := 6, ground := Go.Ground.data }], guard := none }) (v := .bool false) rfl (by kernel_rfl) (by kernel_rfl) (by kernel_rfl) (fun _ _ _ h => h) (Or.inl ⟨by rfl, fun w hSw => by (try dsimp only at hSw); go_simp⟩) hS1 ?_
  simp only [Act.put, List.setIfInBounds_toArray, List.set_cons_zero, List.set_cons_succ]
  refine wpAnyH_take (i := 8) (oi := { dst := some 13, op := Go.Op.move (Go.Operand.tmp 12), type := 4, pos := "lin.go:32", after := #[{ on := 7, ground := Go.Ground.data }, { on := 6, ground := Go.Ground.chain }], guard := none }) (v := .bool false) rfl (by kernel_rfl) (by kernel_rfl) (by kernel_rfl) (fun _ _ _ h => h) (Or.inl ⟨by rfl, fun w hSw => by (try dsimp only at hSw); go_simp⟩) hS1 ?_
  simp only [Act.put, List.setIfInBounds_toArray, List.set_cons_zero, List.set_cons_succ]
  refine wpAnyH_take (i := 9) (oi := { dst := some 14, op := Go.Op.load 23 (Go.Operand.tmp 2), type := 23, pos := "lin.go:32", after := #[{ on := 8, ground := Go.Ground.guard }], guard := some (8, true) }) (v := undef) rfl (by kernel_rfl) (by kernel_rfl) (by kernel_rfl) (fun _ _ _ h => h) (Or.inr ⟨by rfl, rfl⟩) hS1 ?_
  simp only [Act.put, List.setIfInBounds_toArray, List.set_cons_zero, List.set_cons_succ]
  refine wpAnyH_take (i := 10) (oi := { dst := some 15, op := Go.Op.move (Go.Operand.tmp 1), type := 24, pos := "lin.go:32", after := #[{ on := 8, ground := Go.Ground.guard }], guard := some (8, true) }) (v := undef) rfl (by kernel_rfl) (by kernel_rfl) (by kernel_rfl) (fun _ _ _ h => h) (Or.inr ⟨by rfl, rfl⟩) hS1 ?_
  simp only [Act.put, List.setIfInBounds_toArray, List.set_cons_zero, List.set_cons_succ]
  refine wpAnyH_take (i := 11) (oi := { dst := some 16, op := Go.Op.move (Go.Operand.tmp 1), type := 24, pos := "lin.go:32", after := #[{ on := 8, ground := Go.Ground.guard }], guard := some (8, true) }) (v := undef) rfl (by kernel_rfl) (by kernel_rfl) (by kernel_rfl) (fun _ _ _ h => h) (Or.inr ⟨by rfl, rfl⟩) hS1 ?_
  simp only [Act.put, List.setIfInBounds_toArray, List.set_cons_zero, List.set_cons_succ]
  refine wpAnyH_take (i := 12) (oi := { dst := some 17, op := Go.Op.call { callee := Go.Callee.value (Go.Operand.func 22), args := #[Go.Operand.tmp 16], argTypes := #[24] }, type := 25, pos := "lin.go:32", after := #[{ on := 11, ground := Go.Ground.data }, { on := 8, ground := Go.Ground.chain }, { on := 8, ground := Go.Ground.guard }], guard := some (8, true) }) (v := undef) rfl (by kernel_rfl) (by kernel_rfl) (by kernel_rfl) (fun _ _ _ h => h) (Or.inr ⟨by rfl, rfl⟩) hS1 ?_
  simp only [Act.put, List.setIfInBounds_toArray, List.set_cons_zero, List.set_cons_succ]
  refine wpAnyH_take (i := 13) (oi := { dst := some 18, op := Go.Op.call { callee := Go.Callee.value (Go.Operand.func 14), args := #[Go.Operand.tmp 14, Go.Operand.tmp 15, Go.Operand.tmp 17], argTypes := #[23, 24, 25] }, type := 3, pos := "lin.go:32", after := #[{ on := 9, ground := Go.Ground.data }, { on := 10, ground := Go.Ground.data }, { on := 12, ground := Go.Ground.data }, { on := 12, ground := Go.Ground.chain }, { on := 8, ground := Go.Ground.guard }], guard := some (8, true) }) (v := undef) rfl (by kernel_rfl) (by kernel_rfl) (by kernel_rfl) (fun _ _ _ h => h) (Or.inr ⟨by rfl, rfl⟩) hS1 ?_
  simp only [Act.put, List.setIfInBounds_toArray, List.set_cons_zero, List.set_cons_succ]
  refine wpAnyH_take (i := 14) (oi := { dst := some 19, op := Go.Op.move (Go.Operand.tmp 1), type := 24, pos := "lin.go:32", after := #[{ on := 8, ground := Go.Ground.guard }], guard := some (8, true) }) (v := undef) rfl (by kernel_rfl) (by kernel_rfl) (by kernel_rfl) (fun _ _ _ h => h) (Or.inr ⟨by rfl, rfl⟩) hS1 ?_
  simp only [Act.put, List.setIfInBounds_toArray, List.set_cons_zero, List.set_cons_succ]
  refine wpAnyH_take (i := 15) (oi := { dst := some 20, op := Go.Op.call { callee := Go.Callee.builtin Go.Builtin.len, args := #[Go.Operand.tmp 19], argTypes := #[24] }, type := 3, pos := "lin.go:32", after := #[{ on := 14, ground := Go.Ground.data }, { on := 8, ground := Go.Ground.guard }], guard := some (8, true) }) (v := undef) rfl (by kernel_rfl) (by kernel_rfl) (by kernel_rfl) (fun _ _ _ h => h) (Or.inr ⟨by rfl, rfl⟩) hS1 ?_
  simp only [Act.put, List.setIfInBounds_toArray, List.set_cons_zero, List.set_cons_succ]
  refine wpAnyH_take (i := 16) (oi := { dst := some 21, op := Go.Op.binOp Go.BinOp.eql 3 (Go.Operand.tmp 18) (Go.Operand.tmp 20) 3, type := 4, pos := "lin.go:32", after := #[{ on := 13, ground := Go.Ground.data }, { on := 15, ground := Go.Ground.data }, { on := 8, ground := Go.Ground.guard }], guard := some (8, true) }) (v := undef) rfl (by kernel_rfl) (by kernel_rfl) (by kernel_rfl) (fun _ _ _ h => h) (Or.inr ⟨by rfl, rfl⟩) hS1 ?_
  simp only [Act.put, List.setIfInBounds_toArray, List.set_cons_zero, List.set_cons_succ]
  refine wpAnyH_take (i := 17) (oi := { dst := some 22, op := Go.Op.pick (Go.Operand.tmp 13) (Go.Operand.tmp 21) (Go.Operand.const (Go.Value.bool false)), type := 4, pos := "lin.go:32", after := #[{ on := 8, ground := Go.Ground.data }, { on := 16, ground := Go.Ground.data }], guard := none }) (v := .bool false) rfl (by kernel_rfl) (by kernel_rfl) (by kernel_rfl) (fun _ _ _ h => h) (Or.inl ⟨by rfl, fun w hSw => by (try dsimp only at hSw); go_simp⟩) hS1 ?_
  simp only [Act.put, List.setIfInBounds_toArray, List.set_cons_zero, List.set_cons_succ]
  refine wpAnyH_take (i := 18) (oi := { dst := some 4, op := Go.Op.assign (Go.Operand.tmp 22), type := 4, pos := "lin.go:32", after := #[{ on := 17, ground := Go.Ground.data }, { on := 13, ground := Go.Ground.chain }, { on := 0, ground := Go.Ground.phase }, { on := 1, ground := Go.Ground.phase }, { on := 2, ground := Go.Ground.phase }, { on := 3, ground := Go.Ground.phase }, { on := 4, ground := Go.Ground.phase }, { on := 5, ground := Go.Ground.phase }, { on := 6, ground := Go.Ground.phase }, { on := 7, ground := Go.Ground.phase }, { on := 8, ground := Go.Ground.phase }, { on := 9, ground := Go.Ground.phase }, { on := 10, ground := Go.Ground.phase }, { on := 11, ground := Go.Ground.phase }, { on := 12, ground := Go.Ground.phase }, { on := 13, ground := Go.Ground.phase }, { on := 14, ground := Go.Ground.phase }, { on := 15, ground := Go.Ground.phase }, { on := 16, ground := Go.Ground.phase }, { on := 17, ground := Go.Ground.phase }], guard := none }) (v := .bool false) rfl (by kernel_rfl) (by kernel_rfl) (by kernel_rfl) (fun _ _ _ h => h) (Or.inl ⟨by rfl, fun w hSw => by (try dsimp only at hSw); go_simp⟩) hS1 ?_
  simp only [Act.put, List.setIfInBounds_toArray, List.set_cons_zero, List.set_cons_succ]
  refine wpAnyH_done (by kernel_rfl) ?_ _
  go_wp2
  go_ret
  exact ⟨rfl, hS1.2⟩
set_option maxRecDepth 100000 in
set_option maxHeartbeats 4000000 in
theorem Points_any {w : World} (C : Cg) (hR : rightB C.s C.a (C.c : Nat) C.d C.g C.k = true) {ad : Option Addr} {n : Nat} (cap : Nat) {E : List Ev} (hl : n = E.length) (hE : RdEv w ad E) (hI : ∀ e ∈ E, e.In) (hn : n ≤ 100000) :
    Calls Try.prog 13 #[.agg (cs C.s C.a (C.c : Nat) C.d C.g C.k), .slice ad n cap] w fun r w' => ∃ (pb : Bool), r = .returned (.bool pb) ∧ (pb = true ↔ RightP E (C.c : Nat) ∧ ∃ l, IsOrd (ltN (evP E)) n l ∧ repF C E (zI l) (sx0 C.c) = n) ∧ Below w.heap.size w w' := by
  obtain ⟨pb, hpb⟩ := is_bool (RightP E (C.c : Nat) ∧ ∃ l, IsOrd (ltN (evP E)) n l ∧ repF C E (zI l) (sx0 C.c) = n)
  refine Calls.mono (P := Try.prog) ?_ (fun (r : Ending) w' (h : r = .returned (.bool pb) ∧ Below w.heap.size w w') => ⟨pb, h.1, hpb, h.2⟩)
  replace hpb := hid1 hpb
  have cR := right_any C.s C.a (C.c : Nat) C.d C.g C.k
  rw [hR] at cR
  have cH := hid1 fun (wr : World) (b : Below w.heap.size w wr) => hright_any cap hl (hE.below b) (by omega) (C.c : Nat)
  have cO := hid1 fun (wr : World) (b : Below w.heap.size w wr) => horder_any cap hl (hE.below b) (by omega)
  have cP := hid1 fun (wr : World) (b : Below w.heap.size w wr) (ao : Option Addr) (Z : List Int) (hm : n = Z.length) (hZ : RdZ wr ao Z) => replay_at (capo := n) C hR cap hl (hE.below b) hI hm hZ hn
  have bx := alloc_below w (.cells (cs C.s C.a (C.c : Nat) C.d C.g C.k) 23)
  have hq := new_obj w (.cells (cs C.s C.a (C.c : Nat) C.d C.g C.k) 23)
  replace hn := hid1 hn
  clear hE hI hR
  unfold cs at *
  replace cR := hid1 cR
  replace hl := hid1 hl
  go_enter Try.func13, Try.ntmps13
  go_upto_region 1 with fail
  generalize World.alloc _ _ = w1 at *
  generalize w.heap.size = bc at hq ⊢
  refine wp_region_held_drew (S := fun wr => wr.heap[bc]? = some (.cells #[.int .i64 C.s, .int .i64 C.a, .int .i64 (C.c : Nat), .int .i64 C.d, .int .i64 C.g, .int .i64 C.k] 23 (0, 0)) ∧ Below w.heap.size w wr) (by kernel_rfl) ⟨hq, bx.drew⟩ (fun hS1 => ?_)
  clear hq bx
  generalize World.drew _ = w4 at *
  refine wpAnyH_take (i := 0) (oi := { dst := some 5, op := Go.Op.load 23 (Go.Operand.tmp 2), type := 23, pos := "lin.go:32", after := #[], guard := none }) (v := .agg #[.int .i64 C.s, .int .i64 C.a, .int .i64 (C.c : Nat), .int .i64 C.d, .int .i64 C.g, .int .i64 C.k]) rfl (by kernel_rfl) (by kernel_rfl) (by kernel_rfl) (fun _ _ _ h => h) (Or.inl ⟨by rfl, fun w hSw => by (try dsimp only at hSw); obtain ⟨s0, s1, s2, s3, s4, s5⟩ := cfg_cells hSw.1; go_simp⟩) hS1 ?_
  simp only [Act.put, List.setIfInBounds_toArray, List.set_cons_zero, List.set_cons_succ]
  refine wpAnyH_ready (rs := [1]) (by kernel_rfl) (by simp) (AllReadyH.cons (o := { dst := some 6, op := Go.Op.call { callee := Go.Callee.value (Go.Operand.func 15), args := #[Go.Operand.tmp 5], argTypes := #[23] }, type := 4, pos := "lin.go:32", after := #[{ on := 0, ground := Go.Ground.data }], guard := none }) rfl (fun K hK => ?_) AllReadyH.nil)
  go_simp
  go_at_call 15
  with_reducible refine (cR.out _).mono ?_
  rintro r w5 ⟨rfl, b5⟩
  (try simp only [])
  refine hK.out _ _ ⟨(b5.block _ (lt_of_block hS1.1)).trans hS1.1, seq_below hS1.2 b5⟩ (fun hS1 => ?_)
  (try simp only [Act.put, List.setIfInBounds_toArray, List.set_cons_zero, List.set_cons_succ])
  clear hK K b5 cR
  refine wpAnyH_take (i := 2) (oi := { dst := some 7, op := Go.Op.move (Go.Operand.tmp 6), type := 4, pos := "lin.go:32", after := #[{ on := 1, ground := Go.Ground.data }, { on := 1, ground := Go.Ground.chain }], guard := none }) (v := .bool true) rfl (by kernel_rfl) (by kernel_rfl) (by kernel_rfl) (fun _ _ _ h => h) (Or.inl ⟨by rfl, fun w hSw => by (try dsimp only at hSw); go_simp⟩) hS1 ?_
  simp only [Act.put, List.setIfInBounds_toArray, List.set_cons_zero, List.set_cons_succ]
  refine wpAnyH_take (i := 3) (oi := { dst := some 8, op := Go.Op.move (Go.Operand.tmp 1), type := 24, pos := "lin.go:32", after := #[{ on := 2, ground := Go.Ground.guard }], guard := some (2, true) }) (v := .slice ad n cap) rfl (by kernel_rfl) (by kernel_rfl) (by kernel_rfl) (fun _ _ _ h => h) (Or.inl ⟨by rfl, fun w hSw => by (try dsimp only at hSw); go_simp⟩) hS1 ?_
  simp only [Act.put, List.setIfInBounds_toArray, List.set_cons_zero, List.set_cons_succ]
  refine wpAnyH_take (i := 4) (oi := { dst := some 9, op := Go.Op.fieldAddr 23 (Go.Operand.tmp 2) 2, type := 0, pos := "lin.go:32", after := #[{ on := 2, ground := Go.Ground.guard }], guard := some (2, true) }) (v := .pointer (some ⟨bc, 2, none⟩)) rfl (by kernel_rfl) (by kernel_rfl) (by kernel_rfl) (fun _ _ _ h => h) (Or.inl ⟨by rfl, fun w hSw => by (try dsimp only at hSw); go_simp⟩) hS1 ?_
  simp only [Act.put, List.setIfInBounds_toArray, List.set_cons_zero, List.set_cons_succ]
  refine wpAnyH_take (i := 5) (oi := { dst := some 10, op := Go.Op.load 3 (Go.Operand.tmp 9), type := 3, pos := "lin.go:32", after := #[{ on := 4, ground := Go.Ground.data }, { on := 2, ground := Go.Ground.guard }], guard := some (2, true) }) (v := .int .i64 (C.c : Nat)) rfl (by kernel_rfl) (by kernel_rfl) (by kernel_rfl) (fun _ _ _ h => h) (Or.inl ⟨by rfl, fun w hSw => by (try dsimp only at hSw); obtain ⟨s0, s1, s2, s3, s4, s5⟩ := cfg_cells hSw.1; go_simp⟩) hS1 ?_
  simp only [Act.put, List.setIfInBounds_toArray, List.set_cons_zero, List.set_cons_succ]
  refine wpAnyH_ready (rs := [6]) (by kernel_rfl) (by simp) (AllReadyH.cons (o := { dst := some 11, op := Go.Op.call { callee := Go.Callee.value (Go.Operand.func 21), args := #[Go.Operand.tmp 8, Go.Operand.tmp 10], argTypes := #[24, 3] }, type := 4, pos := "lin.go:32", after := #[{ on := 3, ground := Go.Ground.data }, { on := 5, ground := Go.Ground.data }, { on := 2, ground := Go.Ground.chain }, { on := 2, ground := Go.Ground.guard }], guard := some (2, true) }) rfl (fun K hK => ?_) AllReadyH.nil)
  go_simp
  go_at_call 21
  with_reducible refine (cH.out _ hS1.2).mono ?_
  rintro r w6 ⟨rb, rfl, hrb, b6⟩
  (try simp only [])
  refine hK.out _ _ ⟨(b6.block _ (lt_of_block hS1.1)).trans hS1.1, seq_below hS1.2 b6⟩ (fun hS1 => ?_)
  (try simp only [Act.put, List.setIfInBounds_toArray, List.set_cons_zero, List.set_cons_succ])
  clear hK K b6 cH
  replace hrb := hid1 hrb
  cases rb with
  | false =>
    have hf := hid1 (show pb = false from by
      cases pb with
      | false => rfl
      | true => exact absurd (hrb.out.2 (hpb.out.1 rfl).1) (by decide))
    refine wpAnyH_take (i := 7) (oi := { dst := some 12, op := Go.Op.pick (Go.Operand.tmp 7) (Go.Operand.tmp 11) (Go.Operand.const (Go.Value.bool false)), type := 4, pos := "lin.go:32", after := #[{ on := 2, ground := Go.Ground.data }, { on := 6, ground := Go.Ground.data }], guard := none }) (v := .bool false) rfl (by kernel_rfl) (by kernel_rfl) (by kernel_rfl) (fun _ _ _ h => h) (Or.inl ⟨by rfl, fun w hSw => by (try dsimp only at hSw); go_simp⟩) hS1 ?_
    simp only [Act.put, List.setIfInBounds_toArray, List.set_cons_zero, List.set_cons_succ]
    refine wpAnyH_take (i := 8) (oi := { dst := some 13, op := Go.Op.move (Go.Operand.tmp 12), type := 4, pos := "lin.go:32", after := #[{ on := 7, ground := Go.Ground.data }, { on := 6, ground := Go.Ground.chain }], guard := none }) (v := .bool false) rfl (by kernel_rfl) (by kernel_rfl) (by kernel_rfl) (fun _ _ _ h => h) (Or.inl ⟨by rfl, fun w hSw => by (try dsimp only at hSw); go_simp⟩) hS1 ?_
    simp only [Act.put, List.setIfInBounds_toArray, List.set_cons_zero, List.set_cons_succ]
    refine wpAnyH_take (i := 9) (oi := { dst := some 14, op := Go.Op.load 23 (Go.Operand.tmp 2), type := 23, pos := "lin.go:32", after := #[{ on := 8, ground := Go.Ground.guard }], guard := some (8, true) }) (v := undef) rfl (by kernel_rfl) (by kernel_rfl) (by kernel_rfl) (fun _ _ _ h => h) (Or.inr ⟨by rfl, rfl⟩) hS1 ?_
    simp only [Act.put, List.setIfInBounds_toArray, List.set_cons_zero, List.set_cons_succ]
    refine wpAnyH_take (i := 10) (oi := { dst := some 15, op := Go.Op.move (Go.Operand.tmp 1), type := 24, pos := "lin.go:32", after := #[{ on := 8, ground := Go.Ground.guard }], guard := some (8, true) }) (v := undef) rfl (by kernel_rfl) (by kernel_rfl) (by kernel_rfl) (fun _ _ _ h => h) (Or.inr ⟨by rfl, rfl⟩) hS1 ?_
    simp only [Act.put, List.setIfInBounds_toArray, List.set_cons_zero, List.set_cons_succ]
    refine wpAnyH_take (i := 11) (oi := { dst := some 16, op := Go.Op.move (Go.Operand.tmp 1), type := 24, pos := "lin.go:32", after := #[{ on := 8, ground := Go.Ground.guard }], guard := some (8, true) }) (v := undef) rfl (by kernel_rfl) (by kernel_rfl) (by kernel_rfl) (fun _ _ _ h => h) (Or.inr ⟨by rfl, rfl⟩) hS1 ?_
    simp only [Act.put, List.setIfInBounds_toArray, List.set_cons_zero, List.set_cons_succ]
    refine wpAnyH_take (i := 12) (oi := { dst := some 17, op := Go.Op.call { callee := Go.Callee.value (Go.Operand.func 22), args := #[Go.Operand.tmp 16], argTypes := #[24] }, type := 25, pos := "lin.go:32", after := #[{ on := 11, ground := Go.Ground.data }, { on := 8, ground := Go.Ground.chain }, { on := 8, ground := Go.Ground.guard }], guard := some (8, true) }) (v := undef) rfl (by kernel_rfl) (by kernel_rfl) (by kernel_rfl) (fun _ _ _ h => h) (Or.inr ⟨by rfl, rfl⟩) hS1 ?_
    simp only [Act.put, List.setIfInBounds_toArray, List.set_cons_zero, List.set_cons_succ]
    refine wpAnyH_take (i := 13) (oi := { dst := some 18, op := Go.Op.call { callee := Go.Callee.value (Go.Operand.func 14), args := #[Go.Operand.tmp 14, Go.Operand.tmp 15, Go.Operand.tmp 17], argTypes := #[23, 24, 25] }, type := 3, pos := "lin.go:32", after := #[{ on := 9, ground := Go.Ground.data }, { on := 10, ground := Go.Ground.data }, { on := 12, ground := Go.Ground.data }, { on := 12, ground := Go.Ground.chain }, { on := 8, ground := Go.Ground.guard }], guard := some (8, true) }) (v := undef) rfl (by kernel_rfl) (by kernel_rfl) (by kernel_rfl) (fun _ _ _ h => h) (Or.inr ⟨by rfl, rfl⟩) hS1 ?_
    simp only [Act.put, List.setIfInBounds_toArray, List.set_cons_zero, List.set_cons_succ]
    refine wpAnyH_take (i := 14) (oi := { dst := some 19, op := Go.Op.move (Go.Operand.tmp 1), type := 24, pos := "lin.go:32", after := #[{ on := 8, ground := Go.Ground.guard }], guard := some (8, true) }) (v := undef) rfl (by kernel_rfl) (by kernel_rfl) (by kernel_rfl) (fun _ _ _ h => h) (Or.inr ⟨by rfl, rfl⟩) hS1 ?_
    simp only [Act.put, List.setIfInBounds_toArray, List.set_cons_zero, List.set_cons_succ]
    refine wpAnyH_take (i := 15) (oi := { dst := some 20, op := Go.Op.call { callee := Go.Callee.builtin Go.Builtin.len, args := #[Go.Operand.tmp 19], argTypes := #[24] }, type := 3, pos := "lin.go:32", after := #[{ on := 14, ground := Go.Ground.data }, { on := 8, ground := Go.Ground.guard }], guard := some (8, true) }) (v := undef) rfl (by kernel_rfl) (by kernel_rfl) (by kernel_rfl) (fun _ _ _ h => h) (Or.inr ⟨by rfl, rfl⟩) hS1 ?_
    simp only [Act.put, List.setIfInBounds_toArray, List.set_cons_zero, List.set_cons_succ]
    refine wpAnyH_take (i := 16) (oi := { dst := some 21, op := Go.Op.binOp Go.BinOp.eql 3 (Go.Operand.tmp 18) (Go.Operand.tmp 20) 3, type := 4, pos := "lin.go:32", after := #[{ on := 13, ground := Go.Ground.data }, { on := 15, ground := Go.Ground.data }, { on := 8, ground := Go.Ground.guard }], guard := some (8, true) }) (v := undef) rfl (by kernel_rfl) (by kernel_rfl) (by kernel_rfl) (fun _ _ _ h => h) (Or.inr ⟨by rfl, rfl⟩) hS1 ?_
    simp only [Act.put, List.setIfInBounds_toArray, List.set_cons_zero, List.set_cons_succ]
    refine wpAnyH_take (i := 17) (oi := { dst := some 22, op := Go.Op.pick (Go.Operand.tmp 13) (Go.Operand.tmp 21) (Go.Operand.const (Go.Value.bool false)), type := 4, pos := "lin.go:32", after := #[{ on := 8, ground := Go.Ground.data }, { on := 16, ground := Go.Ground.data }], guard := none }) (v := .bool false) rfl (by kernel_rfl) (by kernel_rfl) (by kernel_rfl) (fun _ _ _ h => h) (Or.inl ⟨by rfl, fun w hSw => by (try dsimp only at hSw); go_simp⟩) hS1 ?_
    simp only [Act.put, List.setIfInBounds_toArray, List.set_cons_zero, List.set_cons_succ]
    refine wpAnyH_take (i := 18) (oi := { dst := some 4, op := Go.Op.assign (Go.Operand.tmp 22), type := 4, pos := "lin.go:32", after := #[{ on := 17, ground := Go.Ground.data }, { on := 13, ground := Go.Ground.chain }, { on := 0, ground := Go.Ground.phase }, { on := 1, ground := Go.Ground.phase }, { on := 2, ground := Go.Ground.phase }, { on := 3, ground := Go.Ground.phase }, { on := 4, ground := Go.Ground.phase }, { on := 5, ground := Go.Ground.phase }, { on := 6, ground := Go.Ground.phase }, { on := 7, ground := Go.Ground.phase }, { on := 8, ground := Go.Ground.phase }, { on := 9, ground := Go.Ground.phase }, { on := 10, ground := Go.Ground.phase }, { on := 11, ground := Go.Ground.phase }, { on := 12, ground := Go.Ground.phase }, { on := 13, ground := Go.Ground.phase }, { on := 14, ground := Go.Ground.phase }, { on := 15, ground := Go.Ground.phase }, { on := 16, ground := Go.Ground.phase }, { on := 17, ground := Go.Ground.phase }], guard := none }) (v := .bool false) rfl (by kernel_rfl) (by kernel_rfl) (by kernel_rfl) (fun _ _ _ h => h) (Or.inl ⟨by rfl, fun w hSw => by (try dsimp only at hSw); go_simp⟩) hS1 ?_
    simp only [Act.put, List.setIfInBounds_toArray, List.set_cons_zero, List.set_cons_succ]
    refine wpAnyH_done (by kernel_rfl) ?_ _
    go_wp2
    go_ret
    exact ⟨by rw [hf.out]; rfl, hS1.2⟩
  | true =>
    refine wpAnyH_take (i := 7) (oi := { dst := some 12, op := Go.Op.pick (Go.Operand.tmp 7) (Go.Operand.tmp 11) (Go.Operand.const (Go.Value.bool false)), type := 4, pos := "lin.go:32", after := #[{ on := 2, ground := Go.Ground.data }, { on := 6, ground := Go.Ground.data }], guard := none }) (v := .bool true) rfl (by kernel_rfl) (by kernel_rfl) (by kernel_rfl) (fun _ _ _ h => h) (Or.inl ⟨by rfl, fun w hSw => by (try dsimp only at hSw); go_simp⟩) hS1 ?_
    simp only [Act.put, List.setIfInBounds_toArray, List.set_cons_zero, List.set_cons_succ]
    refine wpAnyH_take (i := 8) (oi := { dst := some 13, op := Go.Op.move (Go.Operand.tmp 12), type := 4, pos := "lin.go:32", after := #[{ on := 7, ground := Go.Ground.data }, { on := 6, ground := Go.Ground.chain }], guard := none }) (v := .bool true) rfl (by kernel_rfl) (by kernel_rfl) (by kernel_rfl) (fun _ _ _ h => h) (Or.inl ⟨by rfl, fun w hSw => by (try dsimp only at hSw); go_simp⟩) hS1 ?_
    simp only [Act.put, List.setIfInBounds_toArray, List.set_cons_zero, List.set_cons_succ]
    refine wpAnyH_take (i := 9) (oi := { dst := some 14, op := Go.Op.load 23 (Go.Operand.tmp 2), type := 23, pos := "lin.go:32", after := #[{ on := 8, ground := Go.Ground.guard }], guard := some (8, true) }) (v := .agg #[.int .i64 C.s, .int .i64 C.a, .int .i64 (C.c : Nat), .int .i64 C.d, .int .i64 C.g, .int .i64 C.k]) rfl (by kernel_rfl) (by kernel_rfl) (by kernel_rfl) (fun _ _ _ h => h) (Or.inl ⟨by rfl, fun w hSw => by (try dsimp only at hSw); obtain ⟨s0, s1, s2, s3, s4, s5⟩ := cfg_cells hSw.1; go_simp⟩) hS1 ?_
    simp only [Act.put, List.setIfInBounds_toArray, List.set_cons_zero, List.set_cons_succ]
    refine wpAnyH_take (i := 10) (oi := { dst := some 15, op := Go.Op.move (Go.Operand.tmp 1), type := 24, pos := "lin.go:32", after := #[{ on := 8, ground := Go.Ground.guard }], guard := some (8, true) }) (v := .slice ad n cap) rfl (by kernel_rfl) (by kernel_rfl) (by kernel_rfl) (fun _ _ _ h => h) (Or.inl ⟨by rfl, fun w hSw => by (try dsimp only at hSw); go_simp⟩) hS1 ?_
    simp only [Act.put, List.setIfInBounds_toArray, List.set_cons_zero, List.set_cons_succ]
    refine wpAnyH_take (i := 11) (oi := { dst := some 16, op := Go.Op.move (Go.Operand.tmp 1), type := 24, pos := "lin.go:32", after := #[{ on := 8, ground := Go.Ground.guard }], guard := some (8, true) }) (v := .slice ad n cap) rfl (by kernel_rfl) (by kernel_rfl) (by kernel_rfl) (fun _ _ _ h => h) (Or.inl ⟨by rfl, fun w hSw => by (try dsimp only at hSw); go_simp⟩) hS1 ?_
    simp only [Act.put, List.setIfInBounds_toArray, List.set_cons_zero, List.set_cons_succ]
    refine wpAnyH_take (i := 14) (oi := { dst := some 19, op := Go.Op.move (Go.Operand.tmp 1), type := 24, pos := "lin.go:32", after := #[{ on := 8, ground := Go.Ground.guard }], guard := some (8, true) }) (v := .slice ad n cap) rfl (by kernel_rfl) (by kernel_rfl) (by kernel_rfl) (fun _ _ _ h => h) (Or.inl ⟨by rfl, fun w hSw => by (try dsimp only at hSw); go_simp⟩) hS1 ?_
    simp only [Act.put, List.setIfInBounds_toArray, List.set_cons_zero, List.set_cons_succ]
    refine wpAnyH_take (i := 15) (oi := { dst := some 20, op := Go.Op.call { callee := Go.Callee.builtin Go.Builtin.len, args := #[Go.Operand.tmp 19], argTypes := #[24] }, type := 3, pos := "lin.go:32", after := #[{ on := 14, ground := Go.Ground.data }, { on := 8, ground := Go.Ground.guard }], guard := some (8, true) }) (v := .int .i64 (n : Nat)) rfl (by kernel_rfl) (by kernel_rfl) (by kernel_rfl) (fun _ _ _ h => h) (Or.inl ⟨by rfl, fun w hSw => by (try dsimp only at hSw); go_simp⟩) hS1 ?_
    simp only [Act.put, List.setIfInBounds_toArray, List.set_cons_zero, List.set_cons_succ]
    refine wpAnyH_ready (rs := [12]) (by kernel_rfl) (by simp) (AllReadyH.cons (o := { dst := some 17, op := Go.Op.call { callee := Go.Callee.value (Go.Operand.func 22), args := #[Go.Operand.tmp 16], argTypes := #[24] }, type := 25, pos := "lin.go:32", after := #[{ on := 11, ground := Go.Ground.data }, { on := 8, ground := Go.Ground.chain }, { on := 8, ground := Go.Ground.guard }], guard := some (8, true) }) rfl (fun K hK => ?_) AllReadyH.nil)
    go_simp
    go_at_call 22
    with_reducible refine (cO.out _ hS1.2).mono ?_
    rintro r w7 ⟨a, rfl, ⟨l, O, Z⟩, b7⟩
    (try simp only [])
    have S7 := hid1 (And.intro ((b7.block _ (lt_of_block hS1.1)).trans hS1.1) (seq_below hS1.2 b7))
    have cP2 := cP.out w7 S7.out.2 a (zI l) (by rw [zI_len]; exact O.len.symm) Z
    refine hK.out _ _ S7.out (fun hS1 => ?_)
    (try simp only [Act.put, List.setIfInBounds_toArray, List.set_cons_zero, List.set_cons_succ])
    clear hK K b7 cO Z cP S7
    replace O := hid1 O
    obtain ⟨R, hRR⟩ : ∃ R, repF C E (zI l) (sx0 C.c) = R := ⟨_, rfl⟩
    rw [hRR] at cP2
    replace cP2 := hid1 cP2
    replace hRR := hid1 hRR
    refine wpAnyH_ready (rs := [13]) (by kernel_rfl) (by simp) (AllReadyH.cons (o := { dst := some 18, op := Go.Op.call { callee := Go.Callee.value (Go.Operand.func 14), args := #[Go.Operand.tmp 14, Go.Operand.tmp 15, Go.Operand.tmp 17], argTypes := #[23, 24, 25] }, type := 3, pos := "lin.go:32", after := #[{ on := 9, ground := Go.Ground.data }, { on := 10, ground := Go.Ground.data }, { on := 12, ground := Go.Ground.data }, { on := 12, ground := Go.Ground.chain }, { on := 8, ground := Go.Ground.guard }], guard := some (8, true) }) rfl (fun K hK => ?_) AllReadyH.nil)
    go_simp
    go_at_call 14
    with_reducible refine cP2.out.mono ?_
    rintro r w8 ⟨rfl, b8⟩
    (try simp only [])
    refine hK.out _ _ ⟨(b8.block _ (lt_of_block hS1.1)).trans hS1.1, seq_below hS1.2 b8⟩ (fun hS1 => ?_)
    (try simp only [Act.put, List.setIfInBounds_toArray, List.set_cons_zero, List.set_cons_succ])
    clear hK K b8 cP2
    have fin : pb = true ↔ R = n := by
      refine hpb.out.trans (Iff.symm ?_)
      constructor
      · intro h
        exact ⟨hrb.out.1 rfl, l, O.out, by rw [hRR.out, h]⟩
      · rintro ⟨_, l', O', h'⟩
        obtain rfl := O.out.uniq (evP_swo E) O'
        rw [hRR.out] at h'
        exact h'
    replace fin := hid1 fin
    by_cases hRn : R = n
    · have g1 : ((R : Int) == (n : Int)) = true := by simp; omega
      have f2 := hid1 (show pb = true from fin.out.2 hRn)
      clear fin hRn
      refine wpAnyH_take (i := 16) (oi := { dst := some 21, op := Go.Op.binOp Go.BinOp.eql 3 (Go.Operand.tmp 18) (Go.Operand.tmp 20) 3, type := 4, pos := "lin.go:32", after := #[{ on := 13, ground := Go.Ground.data }, { on := 15, ground := Go.Ground.data }, { on := 8, ground := Go.Ground.guard }], guard := some (8, true) }) (v := .bool true) rfl (by kernel_rfl) (by kernel_rfl) (by kernel_rfl) (fun _ _ _ h => h) (Or.inl ⟨by rfl, fun w hSw => by (try dsimp only at hSw); go_simp⟩) hS1 ?_
      simp only [Act.put, List.setIfInBounds_toArray, List.set_cons_zero, List.set_cons_succ]
      refine wpAnyH_take (i := 17) (oi := { dst := some 22, op := Go.Op.pick (Go.Operand.tmp 13) (Go.Operand.tmp 21) (Go.Operand.const (Go.Value.bool false)), type := 4, pos := "lin.go:32", after := #[{ on := 8, ground := Go.Ground.data }, { on := 16, ground := Go.Ground.data }], guard := none }) (v := .bool true) rfl (by kernel_rfl) (by kernel_rfl) (by kernel_rfl) (fun _ _ _ h => h) (Or.inl ⟨by rfl, fun w hSw => by (try dsimp only at hSw); go_simp⟩) hS1 ?_
      simp only [Act.put, List.setIfInBounds_toArray, List.set_cons_zero, List.set_cons_succ]
      refine wpAnyH_take (i := 18) (oi := { dst := some 4, op := Go.Op.assign (Go.Operand.tmp 22), type := 4, pos := "lin.go:32", after := #[{ on := 17, ground := Go.Ground.data }, { on := 13, ground := Go.Ground.chain }, { on := 0, ground := Go.Ground.phase }, { on := 1, ground := Go.Ground.phase }, { on := 2, ground := Go.Ground.phase }, { on := 3, ground := Go.Ground.phase }, { on := 4, ground := Go.Ground.phase }, { on := 5, ground := Go.Ground.phase }, { on := 6, ground := Go.Ground.phase }, { on := 7, ground := Go.Ground.phase }, { on := 8, ground := Go.Ground.phase }, { on := 9, ground := Go.Ground.phase }, { on := 10, ground := Go.Ground.phase }, { on := 11, ground := Go.Ground.phase }, { on := 12, ground := Go.Ground.phase }, { on := 13, ground := Go.Ground.phase }, { on := 14, ground := Go.Ground.phase }, { on := 15, ground := Go.Ground.phase }, { on := 16, ground := Go.Ground.phase }, { on := 17, ground := Go.Ground.phase }], guard := none }) (v := .bool true) rfl (by kernel_rfl) (by kernel_rfl) (by kernel_rfl) (fun _ _ _ h => h) (Or.inl ⟨by rfl, fun w hSw => by (try dsimp only at hSw); go_simp⟩) hS1 ?_
      simp only [Act.put, List.setIfInBounds_toArray, List.set_cons_zero, List.set_cons_succ]
      refine wpAnyH_done (by kernel_rfl) ?_ _
      go_wp2
      go_ret
      exact ⟨by rw [f2.out]; rfl, hS1.2⟩
    · have g1 : ((R : Int) == (n : Int)) = false := by simp; omega
      have f2 := hid1 (show pb = false from by
        cases hq : pb with
        | false => rfl
        | true => exact absurd (fin.out.1 hq) hRn)
      clear fin hRn
      refine wpAnyH_take (i := 16) (oi := { dst := some 21, op := Go.Op.binOp Go.BinOp.eql 3 (Go.Operand.tmp 18) (Go.Operand.tmp 20) 3, type := 4, pos := "lin.go:32", after := #[{ on := 13, ground := Go.Ground.data }, { on := 15, ground := Go.Ground.data }, { on := 8, ground := Go.Ground.guard }], guard := some (8, true) }) (v := .bool false) rfl (by kernel_rfl) (by kernel_rfl) (by kernel_rfl) (fun _ _ _ h => h) (Or.inl ⟨by rfl, fun w hSw => by (try dsimp only at hSw); go_simp⟩) hS1 ?_
      simp only [Act.put, List.setIfInBounds_toArray, List.set_cons_zero, List.set_cons_succ]
      refine wpAnyH_take (i := 17) (oi := { dst := some 22, op := Go.Op.pick (Go.Operand.tmp 13) (Go.Operand.tmp 21) (Go.Operand.const (Go.Value.bool false)), type := 4, pos := "lin.go:32", after := #[{ on := 8, ground := Go.Ground.data }, { on := 16, ground := Go.Ground.data }], guard := none }) (v := .bool false) rfl (by kernel_rfl) (by kernel_rfl) (by kernel_rfl) (fun _ _ _ h => h) (Or.inl ⟨by rfl, fun w hSw => by (try dsimp only at hSw); go_simp⟩) hS1 ?_
      simp only [Act.put, List.setIfInBounds_toArray, List.set_cons_zero, List.set_cons_succ]
      refine wpAnyH_take (i := 18) (oi := { dst := some 4, op := Go.Op.assign (Go.Operand.tmp 22), type := 4, pos := "lin.go:32", after := #[{ on := 17, ground := Go.Ground.data }, { on := 13, ground := Go.Ground.chain }, { on := 0, ground := Go.Ground.phase }, { on := 1, ground := Go.Ground.phase }, { on := 2, ground := Go.Ground.phase }, { on := 3, ground := Go.Ground.phase }, { on := 4, ground := Go.Ground.phase }, { on := 5, ground := Go.Ground.phase }, { on := 6, ground := Go.Ground.phase }, { on := 7, ground := Go.Ground.phase }, { on := 8, ground := Go.Ground.phase }, { on := 9, ground := Go.Ground.phase }, { on := 10, ground := Go.Ground.phase }, { on := 11, ground := Go.Ground.phase }, { on := 12, ground := Go.Ground.phase }, { on := 13, ground := Go.Ground.phase }, { on := 14, ground := Go.Ground.phase }, { on := 15, ground := Go.Ground.phase }, { on := 16, ground := Go.Ground.phase }, { on := 17, ground := Go.Ground.phase }], guard := none }) (v := .bool false) rfl (by kernel_rfl) (by kernel_rfl) (by kernel_rfl) (fun _ _ _ h => h) (Or.inl ⟨by rfl, fun w hSw => by (try dsimp only at hSw); go_simp⟩) hS1 ?_
      simp only [Act.put, List.setIfInBounds_toArray, List.set_cons_zero, List.set_cons_succ]
      refine wpAnyH_done (by kernel_rfl) ?_ _
      go_wp2
      go_ret
      exact ⟨by rw [f2.out]; rfl, hS1.2⟩
end Go.Proofs.Ytecppcakgfohbab
/- The document's example of layer 19. -/
namespace Go.Proofs.Ytecppcakgfohbab
open Go.RowKit Go.Sort
set_option linter.unusedSimpArgs false
set_option linter.unusedVariables false

theorem IsZ.rdz {w : World} {ad : Option Addr} {n cap : Nat} {xs : List Int} (h : IsZ w (.slice ad n cap) xs) : RdZ w ad xs := fun i x hi => by
  have hl := (List.getElem?_eq_some_iff.1 hi).1
  rcases h with ⟨_, rfl⟩ | ⟨g, off, cap', cur, h1, hh, h2, h3, h4, hc⟩
  · simp at hi
  · simp only [Value.slice.injEq] at h1
    obtain ⟨rfl, _, _⟩ := h1
    refine ⟨g, off, rfl, lt_of_block hh, ?_⟩
    simp only [World.cell?, hh]
    rw [hc i hl, List.getD_eq_getElem?_getD, hi]
    rfl
def K19 : Cg := ⟨4, 2, 2, 3, 9, 0⟩
theorem lconfig_any (w : World) : Calls Try.prog 17 #[] w fun r w' => r = .returned (.agg (cs 4 2 2 3 9 0)) ∧ Below w.heap.size w w' := by
  go_enter Try.func17, Try.ntmps17
  go_wp2
  refine bodyPost_ret (results_cell_row rfl _ _ _ 23 _ (0, 0) _ rfl (new_obj w _) Try.underlying23 rfl (by kernel_rfl)) rfl ?_
  exact ⟨rfl, alloc_below _ _⟩
def lE19 : List Ev := [(⟨0, 0, 1, 5, 5, false, 1, 1, 0, 0, 0, 0, 7, false⟩ : Ev), (⟨1, 0, 2, 2, 3, false, 2, 0, 7, 0, 0, 2, 0, false⟩ : Ev)]
theorem lE_rd {w : World} {b : Nat} (h : w.heap[b]? = some (.cells #[.int .i64 0, .int .i64 0, .int .i64 1, .int .i64 5, .int .i64 5, .bool false, .int .i64 1, .int .i64 1, .int .u64 0, .int .u64 0, .int .u64 0, .int .i64 0, .int .u64 7, .bool false, .int .i64 1, .int .i64 0, .int .i64 2, .int .i64 2, .int .i64 3, .bool false, .int .i64 2, .int .i64 0, .int .u64 7, .int .u64 0, .int .u64 0, .int .i64 2, .int .u64 0, .bool false] 43 (0, 0))) : RdEv w (some ⟨b, 0, none⟩) lE19 := by
  intro i e hi
  refine ⟨b, 0, rfl, lt_of_block h, fun k hk => ?_⟩
  match i, hi with
  | 0, hi =>
    obtain rfl := Option.some.inj hi
    match k, hk with
    | 0, _ => simp [World.cell?, h, Ev.row]
    | 1, _ => simp [World.cell?, h, Ev.row]
    | 2, _ => simp [World.cell?, h, Ev.row]
    | 3, _ => simp [World.cell?, h, Ev.row]
    | 4, _ => simp [World.cell?, h, Ev.row]
    | 5, _ => simp [World.cell?, h, Ev.row]
    | 6, _ => simp [World.cell?, h, Ev.row]
    | 7, _ => simp [World.cell?, h, Ev.row]
    | 8, _ => simp [World.cell?, h, Ev.row]
    | 9, _ => simp [World.cell?, h, Ev.row]
    | 10, _ => simp [World.cell?, h, Ev.row]
    | 11, _ => simp [World.cell?, h, Ev.row]
    | 12, _ => simp [World.cell?, h, Ev.row]
    | 13, _ => simp [World.cell?, h, Ev.row]
    | k + 14, hk => omega
  | 1, hi =>
    obtain rfl := Option.some.inj hi
    match k, hk with
    | 0, _ => simp [World.cell?, h, Ev.row]
    | 1, _ => simp [World.cell?, h, Ev.row]
    | 2, _ => simp [World.cell?, h, Ev.row]
    | 3, _ => simp [World.cell?, h, Ev.row]
    | 4, _ => simp [World.cell?, h, Ev.row]
    | 5, _ => simp [World.cell?, h, Ev.row]
    | 6, _ => simp [World.cell?, h, Ev.row]
    | 7, _ => simp [World.cell?, h, Ev.row]
    | 8, _ => simp [World.cell?, h, Ev.row]
    | 9, _ => simp [World.cell?, h, Ev.row]
    | 10, _ => simp [World.cell?, h, Ev.row]
    | 11, _ => simp [World.cell?, h, Ev.row]
    | 12, _ => simp [World.cell?, h, Ev.row]
    | 13, _ => simp [World.cell?, h, Ev.row]
    | k + 14, hk => omega
  | i + 2, hi => simp [lE19] at hi
theorem lE_O : IsOrd (ltN (evP lE19)) 2 [1, 0] := ⟨by decide, by
  rw [List.pairwise_cons]
  refine ⟨fun x hx => ?_, by simp⟩
  obtain rfl := List.mem_singleton.1 hx
  decide⟩
theorem lE_right : RightP lE19 2 := by
  refine ⟨fun i e hi => ?_, fun i k e f hi hk hik => ?_⟩
  · match i, hi with
    | 0, hi => obtain rfl := Option.some.inj hi; decide
    | 1, hi => obtain rfl := Option.some.inj hi; decide
    | i + 2, hi => simp [lE19] at hi
  · match i, k, hi, hk with
    | 0, 0, _, _ => exact absurd rfl hik
    | 1, 1, _, _ => exact absurd rfl hik
    | 0, 1, hi, hk => obtain rfl := Option.some.inj hi; obtain rfl := Option.some.inj hk; decide
    | 1, 0, hi, hk => obtain rfl := Option.some.inj hi; obtain rfl := Option.some.inj hk; decide
    | i + 2, _, hi, _ => simp [lE19] at hi
    | _, k + 2, _, hk => simp [lE19] at hk
theorem lE_in : ∀ e ∈ lE19, e.In := fun e he => by
  rcases List.mem_cons.1 he with rfl | he
  · exact ⟨by decide, by decide, by decide, by decide⟩
  · obtain rfl := List.mem_singleton.1 he
    exact ⟨by decide, by decide, by decide, by decide⟩
theorem lE_rep : repF K19 lE19 (zI [1, 0]) (sx0 2) = 2 := by kernel_rfl
theorem lE_tk : (rsX K19 lE19 [0, 1] (sx0 2)).isSome = true := by kernel_rfl
theorem lE_gd : Gd K19 lE19 [0, 1] where
  lt := fun k i hk => by
    match k, hk with
    | 0, hk => obtain rfl := Option.some.inj hk; decide
    | 1, hk => obtain rfl := Option.some.inj hk; decide
    | k + 2, hk => simp at hk
  may := fun k i hk => by
    match k, hk with
    | 0, hk => obtain rfl := Option.some.inj hk; decide
    | 1, hk => obtain rfl := Option.some.inj hk; decide
    | k + 2, hk => simp at hk
  tk := lE_tk
set_option maxRecDepth 100000 in
set_option maxHeartbeats 4000000 in
theorem lawake_any (w : World) : Calls Try.prog 9 #[] w fun r w' => r = .returned (.bool true) ∧ Below w.heap.size w w' := by
  have hq := new_obj w (.cells #[.int .i64 0, .int .i64 0, .int .i64 1, .int .i64 5, .int .i64 5, .bool false, .int .i64 1, .int .i64 1, .int .u64 0, .int .u64 0, .int .u64 0, .int .i64 0, .int .u64 7, .bool false, .int .i64 1, .int .i64 0, .int .i64 2, .int .i64 2, .int .i64 3, .bool false, .int .i64 2, .int .i64 0, .int .u64 7, .int .u64 0, .int .u64 0, .int .i64 2, .int .u64 0, .bool false] 43)
  have bel := alloc_below w (.cells #[.int .i64 0, .int .i64 0, .int .i64 1, .int .i64 5, .int .i64 5, .bool false, .int .i64 1, .int .i64 1, .int .u64 0, .int .u64 0, .int .u64 0, .int .i64 0, .int .u64 7, .bool false, .int .i64 1, .int .i64 0, .int .i64 2, .int .i64 2, .int .i64 3, .bool false, .int .i64 2, .int .i64 0, .int .u64 7, .int .u64 0, .int .u64 0, .int .i64 2, .int .u64 0, .bool false] 43)
  have cC := hid1 fun w => lconfig_any w
  go_enter Try.func9, Try.ntmps9
  go_upto_region 2 with fail
  generalize World.alloc _ _ = w1 at *
  generalize w.heap.size = b at hq ⊢
  have hR := hid1 (lE_rd hq)
  clear hq
  have cS := hid1 fun (wr : World) (b' : Below w1.heap.size w1 wr) => Search_any (lE := 2) K19 (by decide) 2 rfl (hR.out.below b') lE_in (by decide)
  have cP := hid1 fun (wr : World) (b' : Below w1.heap.size w1 wr) => Points_any (n := 2) K19 (by decide) 2 rfl (hR.out.below b') lE_in (by decide)
  have cR := hid1 fun (wr : World) (b' : Below w1.heap.size w1 wr) (ao : Option Addr) (co : Nat) (O : List Nat) (hO : O.length = 2) (hZ : RdZ wr ao (zI O)) => replay_at (n := 2) (m := 2) K19 (by decide) 2 co rfl (hR.out.below b') lE_in (Z := zI O) (by rw [zI_len]; exact hO.symm) hZ (by decide)
  unfold cs at *
  go_upto_region 3 with (first
    | (go_at_call 17; with_reducible refine (cC.out _).mono ?_; rintro r w2 ⟨rfl, b2⟩)
    | (go_at_call 7; refine (cS.out _ b2).mono ?_; rintro r w3 ⟨b3, hr⟩; replace b3 := seq_below b2 b3; rcases hr with ⟨O, ao, co, rfl, h1, h2, h3, h4⟩ | ⟨rfl, h1⟩))
  · have hrep := (rep_rs K19 lE19 O (sx0 2) h3.mem).2 h3.tk
    replace hrep : repF K19 lE19 (zI O) (sx0 2) = 2 := hrep.trans h1
    have cR2 := hid1 fun (wr : World) (b' : Below w3.heap.size w3 wr) => cR.out wr (seq_below b3 b') ao co O h1 (h2.rdz.below b')
    have cP2 := hid1 fun (wr : World) (b' : Below w3.heap.size w3 wr) => cP.out wr (seq_below b3 b')
    have bel3 := hid1 (seq_below bel b3)
    rw [show repF K19 lE19 (zI O) (sx0 K19.c) = 2 from hrep] at cR2
    clear hrep cR cP cS h1 h2 h3 h4 b3 hR bel b2
    have bl := Below.refl w3.heap.size w3
    go_wp2_with (first
      | (go_at_call 17; with_reducible refine (cC.out _).mono ?_; rintro r w4 ⟨rfl, b4⟩; replace bl := seq_below bl b4; clear b4)
      | (go_at_call 13; refine (cP2.out _ bl).mono ?_; rintro r w5 ⟨pb, rfl, hp, b5⟩; obtain rfl : pb = true := hp.2 ⟨lE_right, [1, 0], lE_O, lE_rep⟩; replace bl := seq_below bl b5; clear b5 hp)
      | (go_at_call 14; refine (cR2.out _ bl).mono ?_; rintro r w7 ⟨rfl, b7⟩; replace bl := seq_below bl b7; clear b7))
    go_ret
    exact ⟨rfl, seq_below bel3.out bl⟩
  · exact absurd rfl (h1 [0, 1] lE_gd)
end Go.Proofs.Ytecppcakgfohbab
/- LinFronts, LinPoints: the laws. -/
namespace Go.Proofs.Ytecppcakgfohbab
open Go.RowKit Go.Sort
set_option linter.unusedSimpArgs false
set_option linter.unusedVariables false

theorem lpoints_resp {E : List Ev} {c : Int} {l : List Nat} (h : RightP E c) (ho : IsOrd (ltN (evP E)) E.length l) : RespP E (l.map fun (x : Nat) => (x : Int)) := by
  have get : ∀ (k : Nat) (x : Int), (l.map fun (x : Nat) => (x : Int))[k]? = some x → ∃ y : Nat, l[k]? = some y ∧ x = (y : Int) := fun k x hk => by
    rw [List.getElem?_map] at hk
    cases hl : l[k]? with
    | none => rw [hl] at hk; cases hk
    | some y => rw [hl] at hk; exact ⟨y, rfl, (Option.some.inj hk).symm⟩
  refine ⟨by rw [List.length_map, ho.len], fun k x hk => ?_, fun j k x y hj hk hjk => ?_, fun j k x y e f hj hk hjk he hf => ?_⟩
  · obtain ⟨y, hy, rfl⟩ := get k x hk
    have := ho.sm hy
    omega
  · obtain ⟨a, ha, rfl⟩ := get j x hj
    obtain ⟨b, hb, rfl⟩ := get k y hk
    have := rl_ne (evP_swo E) (ho.lr ha hb hjk)
    omega
  · obtain ⟨a, ha, rfl⟩ := get j x hj
    obtain ⟨b, hb, rfl⟩ := get k y hk
    rw [Int.toNat_natCast] at he hf
    have r := ho.lr ha hb hjk
    have o1 := (h.1 a e he).2.2
    have o2 := (h.1 b f hf).2.2
    unfold rl at r
    simp only [ltN, evP, List.getD_eq_getElem?_getD, he, hf, Option.getD_some, Bool.or_eq_true, Bool.and_eq_true, Bool.not_eq_true', decide_eq_true_eq, decide_eq_false_iff_not, ptI_lt] at r
    omega
def CgI (s a c d g k : Int) : Cg := ⟨s, a, c.toNat, d, g, k⟩
theorem CgI_c {s a c d g k : Int} (h : rightB s a c d g k = true) : ((CgI s a c d g k).c : Int) = c := by
  have := (rightB_iff.1 h).2.2.1
  show (c.toNat : Int) = c
  omega
def repG (s a c d g k : Int) (E : List Ev) (Z : List Int) : Nat := if rightB s a c d g k = true then repF (CgI s a c d g k) E Z (sx0 c.toNat) else 0
theorem replay_gen {w : World} (s a c d g k : Int) {ad ao : Option Addr} {E : List Ev} {n m : Nat} (cap capo : Nat) (hn : n = E.length) (hE : RdEv w ad E) (hI : ∀ e ∈ E, e.In) {Z : List Int} (hm : m = Z.length) (hZ : RdZ w ao Z) (hl : m ≤ 100000) :
    Calls Try.prog 14 #[.agg (cs s a c d g k), .slice ad n cap, .slice ao m capo] w fun r w' => r = .returned (.int .i64 (repG s a c d g k E Z : Nat)) ∧ Below w.heap.size w w' := by
  unfold repG
  by_cases hR : rightB s a c d g k = true
  · rw [if_pos hR]
    have hc := CgI_c hR
    have := replay_at (CgI s a c d g k) (ad := ad) (ao := ao) (by rw [hc]; exact hR) cap capo hn hE hI hm hZ hl
    rw [hc] at this
    exact this
  · rw [if_neg hR]
    subst hn
    subst hm
    exact replay_no s a c d g k (by simpa using hR) cap capo hE hZ
theorem repG_front (s a c d g k : Int) (E : List Ev) (Z : List Int) (n : Nat) (h : n ≤ Z.length) : repG s a c d g k E (Z.take n) = min n (repG s a c d g k E Z) := by
  unfold repG
  split
  · exact repF_front _ E Z _ n h
  · simp
theorem RdZ.take {w : World} {ad : Option Addr} {Z : List Int} (h : RdZ w ad Z) (n : Nat) : RdZ w ad (Z.take n) := fun i x hi => by
  rw [List.getElem?_take] at hi
  split at hi
  · exact h i x hi
  · cases hi
/-- A slice that came in. -/
def Sl (ad : Option Addr) (len cap : Nat) : Prop := (ad = none ∧ len = 0 ∧ cap = 0) ∨ ((∃ a, ad = some a) ∧ len ≤ cap ∧ cap ≤ maxLen)
theorem pick_in (n : Int) (l : Nat) (hl : l < 1000000) : ∃ m : Nat, wrap64 ((IntKind.u64.wrap n).tmod ((l : Int) + 1)) = (m : Int) ∧ m ≤ l := by
  have h0 : 0 ≤ IntKind.u64.wrap n := by rw [IntKind.wrap_u64]; omega
  rw [Int.tmod_eq_emod_of_nonneg h0]
  have h1 := Int.emod_nonneg (IntKind.u64.wrap n) (show (l : Int) + 1 ≠ 0 by omega)
  have h2 := Int.emod_lt_of_pos (IntKind.u64.wrap n) (show 0 < (l : Int) + 1 by omega)
  generalize IntKind.u64.wrap n % ((l : Int) + 1) = q at *
  exact ⟨q.toNat, by rw [IntWalk.wrap64_in _ (by omega)]; omega, by omega⟩
set_option maxRecDepth 100000 in
set_option maxHeartbeats 4000000 in
theorem fronts_long {w : World} (s a c d g k n : Int) {ad ao : Option Addr} {lE lZ : Nat} (cap capo : Nat) (h : 40 < lE ∨ 40 < lZ) :
    Calls Try.prog 5 #[.agg (cs s a c d g k), .slice ad lE cap, .slice ao lZ capo, .int .i64 n] w fun r w' => r = .returned (.bool true) ∧ Below w.heap.size w w' := by
  have bx := alloc_below w (.cells (cs s a c d g k) 23)
  unfold cs at *
  by_cases h1 : 40 < lE
  · have g1 : (40 : Int) < (lE : Int) := by omega
    clear h
    go_enter Try.func5, Try.ntmps5
    go_wp2_with (go_at_call 9; with_reducible refine (lawake_any _).mono ?_; rintro r w2 ⟨rfl, b2⟩)
    go_ret
    exact ⟨rfl, seq_below bx b2⟩
  · have g1 : ¬ (40 : Int) < (lE : Int) := by omega
    have g2 : (40 : Int) < (lZ : Int) := by omega
    clear h h1
    go_enter Try.func5, Try.ntmps5
    go_wp2_with (go_at_call 9; with_reducible refine (lawake_any _).mono ?_; rintro r w2 ⟨rfl, b2⟩)
    go_ret
    exact ⟨rfl, seq_below bx b2⟩
set_option maxRecDepth 100000 in
set_option maxHeartbeats 4000000 in
theorem fronts_short {w : World} (s a c d g k n : Int) {ad ao : Option Addr} {lE lZ : Nat} (cap capo : Nat) {E : List Ev} (hl : lE = E.length) (hE : RdEv w ad E) (hI : ∀ e ∈ E, e.In) {Z : List Int} (hlZ : lZ = Z.length) (hZ : RdZ w ao Z) (hs : Sl ao lZ capo) (h1 : lE ≤ 40) (h2 : lZ ≤ 40) :
    Calls Try.prog 5 #[.agg (cs s a c d g k), .slice ad lE cap, .slice ao lZ capo, .int .i64 n] w fun r w' => r = .returned (.bool true) ∧ Below w.heap.size w w' := by
  have bx := alloc_below w (.cells (cs s a c d g k) 23)
  have hq := new_obj w (.cells (cs s a c d g k) 23)
  obtain ⟨m, hm0, hm⟩ : ∃ m : Nat, wrap64 ((IntKind.u64.wrap n).tmod ((lZ : Int) + 1)) = (m : Int) ∧ m ≤ lZ := pick_in n lZ (by omega)
  have c1 := hid1 fun (wr : World) (b : Below w.heap.size w wr) => replay_gen (n := lE) (m := m) (ao := ao) s a c d g k cap (capo) hl (hE.below b) hI (Z := Z.take m) (by rw [List.length_take]; omega) ((hZ.below b).take m) (by omega)
  have c2 := hid1 fun (wr : World) (b : Below w.heap.size w wr) => replay_gen (n := lE) (m := lZ) (ao := ao) s a c d g k cap capo hl (hE.below b) hI (Z := Z) hlZ (hZ.below b) (by omega)
  rw [repG_front s a c d g k E Z m (by omega)] at c1
  obtain ⟨R, hR⟩ : ∃ R, repG s a c d g k E Z = R := ⟨_, rfl⟩
  rw [hR] at c1 c2
  have hmn : min (m : Int) (R : Int) = ((min m R : Nat) : Int) := by omega
  generalize min m R = q at c1 hmn
  clear hE hI hZ hR hl hlZ
  have g1 : ¬ (40 : Int) < (lE : Int) := by omega
  have g2 : ¬ (40 : Int) < (lZ : Int) := by omega
  have g3 : (0 : Int) ≤ (m : Int) := by omega
  have g4 : (m : Int) ≤ (capo : Int) := by rcases hs with ⟨_, _, rfl⟩ | ⟨_, h, _⟩ <;> omega
  have g5 : m ≤ capo := by omega
  unfold cs at *
  go_enter Try.func5, Try.ntmps5
  go_upto_region 4 with fail
  rw [hm0]
  clear hm0 h1 h2
  generalize World.alloc _ _ = w1 at *
  generalize w.heap.size = bc at hq ⊢
  refine wp_region_held_drew (S := fun wr => wr.heap[bc]? = some (.cells #[.int .i64 s, .int .i64 a, .int .i64 c, .int .i64 d, .int .i64 g, .int .i64 k] 23 (0, 0)) ∧ Below w.heap.size w wr) (by kernel_rfl) ⟨hq, bx.drew⟩ (fun hS1 => ?_)
  clear hq bx
  generalize World.drew _ = w4 at *
  refine wpAnyH_take (i := 0) (oi := { dst := some 27, op := Go.Op.load 23 (Go.Operand.tmp 4), type := 23, pos := "law.go:121", after := #[], guard := none }) (v := .agg #[.int .i64 s, .int .i64 a, .int .i64 c, .int .i64 d, .int .i64 g, .int .i64 k]) rfl (by kernel_rfl) (by kernel_rfl) (by kernel_rfl) (fun _ _ _ h => h) (Or.inl ⟨by rfl, fun w hSw => by (try dsimp only at hSw); obtain ⟨s0, s1, s2, s3, s4, s5⟩ := cfg_cells hSw.1; go_simp⟩) hS1 ?_
  simp only [Act.put, List.setIfInBounds_toArray, List.set_cons_zero, List.set_cons_succ]
  refine wpAnyH_take (i := 1) (oi := { dst := some 28, op := Go.Op.move (Go.Operand.tmp 1), type := 24, pos := "law.go:121", after := #[], guard := none }) (v := .slice ad lE cap) rfl (by kernel_rfl) (by kernel_rfl) (by kernel_rfl) (fun _ _ _ h => h) (Or.inl ⟨by rfl, fun w hSw => by (try dsimp only at hSw); go_simp⟩) hS1 ?_
  simp only [Act.put, List.setIfInBounds_toArray, List.set_cons_zero, List.set_cons_succ]
  refine wpAnyH_take (i := 2) (oi := { dst := some 29, op := Go.Op.move (Go.Operand.tmp 2), type := 25, pos := "law.go:121", after := #[], guard := none }) (v := .slice ao lZ capo) rfl (by kernel_rfl) (by kernel_rfl) (by kernel_rfl) (fun _ _ _ h => h) (Or.inl ⟨by rfl, fun w hSw => by (try dsimp only at hSw); go_simp⟩) hS1 ?_
  simp only [Act.put, List.setIfInBounds_toArray, List.set_cons_zero, List.set_cons_succ]
  refine wpAnyH_take (i := 3) (oi := { dst := some 30, op := Go.Op.move (Go.Operand.tmp 9), type := 3, pos := "law.go:121", after := #[], guard := none }) (v := .int .i64 (m : Nat)) rfl (by kernel_rfl) (by kernel_rfl) (by kernel_rfl) (fun _ _ _ h => h) (Or.inl ⟨by rfl, fun w hSw => by (try dsimp only at hSw); go_simp⟩) hS1 ?_
  simp only [Act.put, List.setIfInBounds_toArray, List.set_cons_zero, List.set_cons_succ]
  refine wpAnyH_take (i := 4) (oi := { dst := some 31, op := Go.Op.slice 25 (Go.Operand.tmp 29) none (some (Go.Operand.tmp 30)) none, type := 25, pos := "law.go:121", after := #[{ on := 2, ground := Go.Ground.data }, { on := 3, ground := Go.Ground.data }], guard := none }) (v := .slice ao m capo) rfl (by kernel_rfl) (by kernel_rfl) (by kernel_rfl) (fun _ _ _ h => h) (Or.inl ⟨by rfl, fun w hSw => by (try dsimp only at hSw); rcases hs with ⟨rfl, rfl, rfl⟩ | ⟨⟨a0, rfl⟩, hs1, hs2⟩; obtain rfl : m = 0 := (by omega); go_simp; go_simp⟩) hS1 ?_
  simp only [Act.put, List.setIfInBounds_toArray, List.set_cons_zero, List.set_cons_succ]
  refine wpAnyH_take (i := 6) (oi := { dst := some 33, op := Go.Op.move (Go.Operand.tmp 9), type := 3, pos := "law.go:121", after := #[], guard := none }) (v := .int .i64 (m : Nat)) rfl (by kernel_rfl) (by kernel_rfl) (by kernel_rfl) (fun _ _ _ h => h) (Or.inl ⟨by rfl, fun w hSw => by (try dsimp only at hSw); go_simp⟩) hS1 ?_
  simp only [Act.put, List.setIfInBounds_toArray, List.set_cons_zero, List.set_cons_succ]
  refine wpAnyH_take (i := 7) (oi := { dst := some 34, op := Go.Op.load 23 (Go.Operand.tmp 4), type := 23, pos := "law.go:121", after := #[], guard := none }) (v := .agg #[.int .i64 s, .int .i64 a, .int .i64 c, .int .i64 d, .int .i64 g, .int .i64 k]) rfl (by kernel_rfl) (by kernel_rfl) (by kernel_rfl) (fun _ _ _ h => h) (Or.inl ⟨by rfl, fun w hSw => by (try dsimp only at hSw); obtain ⟨s0, s1, s2, s3, s4, s5⟩ := cfg_cells hSw.1; go_simp⟩) hS1 ?_
  simp only [Act.put, List.setIfInBounds_toArray, List.set_cons_zero, List.set_cons_succ]
  refine wpAnyH_take (i := 8) (oi := { dst := some 35, op := Go.Op.move (Go.Operand.tmp 1), type := 24, pos := "law.go:121", after := #[], guard := none }) (v := .slice ad lE cap) rfl (by kernel_rfl) (by kernel_rfl) (by kernel_rfl) (fun _ _ _ h => h) (Or.inl ⟨by rfl, fun w hSw => by (try dsimp only at hSw); go_simp⟩) hS1 ?_
  simp only [Act.put, List.setIfInBounds_toArray, List.set_cons_zero, List.set_cons_succ]
  refine wpAnyH_take (i := 9) (oi := { dst := some 36, op := Go.Op.move (Go.Operand.tmp 2), type := 25, pos := "law.go:121", after := #[], guard := none }) (v := .slice ao lZ capo) rfl (by kernel_rfl) (by kernel_rfl) (by kernel_rfl) (fun _ _ _ h => h) (Or.inl ⟨by rfl, fun w hSw => by (try dsimp only at hSw); go_simp⟩) hS1 ?_
  simp only [Act.put, List.setIfInBounds_toArray, List.set_cons_zero, List.set_cons_succ]
  refine wpAnyH_ready (rs := [5]) (by kernel_rfl) (by simp) (AllReadyH.cons (o := { dst := some 32, op := Go.Op.call { callee := Go.Callee.value (Go.Operand.func 14), args := #[Go.Operand.tmp 27, Go.Operand.tmp 28, Go.Operand.tmp 31], argTypes := #[23, 24, 25] }, type := 3, pos := "law.go:121", after := #[{ on := 0, ground := Go.Ground.data }, { on := 1, ground := Go.Ground.data }, { on := 4, ground := Go.Ground.data }], guard := none }) rfl (fun K hK => ?_) AllReadyH.nil)
  go_simp
  go_at_call 14
  with_reducible refine (c1.out _ hS1.2).mono ?_
  rintro r w5 ⟨rfl, b5⟩
  (try simp only [])
  refine hK.out _ _ ⟨(b5.block _ (lt_of_block hS1.1)).trans hS1.1, seq_below hS1.2 b5⟩ (fun hS1 => ?_)
  (try simp only [Act.put, List.setIfInBounds_toArray, List.set_cons_zero, List.set_cons_succ])
  clear hK K b5 c1
  refine wpAnyH_ready (rs := [10]) (by kernel_rfl) (by simp) (AllReadyH.cons (o := { dst := some 37, op := Go.Op.call { callee := Go.Callee.value (Go.Operand.func 14), args := #[Go.Operand.tmp 34, Go.Operand.tmp 35, Go.Operand.tmp 36], argTypes := #[23, 24, 25] }, type := 3, pos := "law.go:121", after := #[{ on := 7, ground := Go.Ground.data }, { on := 8, ground := Go.Ground.data }, { on := 9, ground := Go.Ground.data }, { on := 5, ground := Go.Ground.chain }], guard := none }) rfl (fun K hK => ?_) AllReadyH.nil)
  go_simp
  go_at_call 14
  with_reducible refine (c2.out _ hS1.2).mono ?_
  rintro r w5 ⟨rfl, b5⟩
  (try simp only [])
  refine hK.out _ _ ⟨(b5.block _ (lt_of_block hS1.1)).trans hS1.1, seq_below hS1.2 b5⟩ (fun hS1 => ?_)
  (try simp only [Act.put, List.setIfInBounds_toArray, List.set_cons_zero, List.set_cons_succ])
  clear hK K b5 c2
  refine wpAnyH_take (i := 11) (oi := { dst := some 38, op := Go.Op.call { callee := Go.Callee.builtin Go.Builtin.min, args := #[Go.Operand.tmp 33, Go.Operand.tmp 37], argTypes := #[3, 3] }, type := 3, pos := "law.go:121", after := #[{ on := 6, ground := Go.Ground.data }, { on := 10, ground := Go.Ground.data }], guard := none }) (v := .int .i64 (q : Nat)) rfl (by kernel_rfl) (by kernel_rfl) (by kernel_rfl) (fun _ _ _ h => h) (Or.inl ⟨by rfl, fun w hSw => by (try dsimp only at hSw); go_simp⟩) hS1 ?_
  simp only [Act.put, List.setIfInBounds_toArray, List.set_cons_zero, List.set_cons_succ]
  refine wpAnyH_take (i := 12) (oi := { dst := some 39, op := Go.Op.binOp Go.BinOp.eql 3 (Go.Operand.tmp 32) (Go.Operand.tmp 38) 3, type := 4, pos := "law.go:121", after := #[{ on := 5, ground := Go.Ground.data }, { on := 11, ground := Go.Ground.data }], guard := none }) (v := .bool true) rfl (by kernel_rfl) (by kernel_rfl) (by kernel_rfl) (fun _ _ _ h => h) (Or.inl ⟨by rfl, fun w hSw => by (try dsimp only at hSw); go_simp⟩) hS1 ?_
  simp only [Act.put, List.setIfInBounds_toArray, List.set_cons_zero, List.set_cons_succ]
  refine wpAnyH_take (i := 13) (oi := { dst := some 40, op := Go.Op.move (Go.Operand.tmp 39), type := 4, pos := "law.go:121", after := #[{ on := 12, ground := Go.Ground.data }, { on := 10, ground := Go.Ground.chain }], guard := none }) (v := .bool true) rfl (by kernel_rfl) (by kernel_rfl) (by kernel_rfl) (fun _ _ _ h => h) (Or.inl ⟨by rfl, fun w hSw => by (try dsimp only at hSw); go_simp⟩) hS1 ?_
  simp only [Act.put, List.setIfInBounds_toArray, List.set_cons_zero, List.set_cons_succ]
  refine wpAnyH_ready (rs := [14]) (by kernel_rfl) (by simp) (AllReadyH.cons (o := { dst := some 41, op := Go.Op.call { callee := Go.Callee.value (Go.Operand.func 9), args := #[], argTypes := #[] }, type := 4, pos := "law.go:121", after := #[{ on := 13, ground := Go.Ground.chain }, { on := 13, ground := Go.Ground.guard }], guard := some (13, true) }) rfl (fun K hK => ?_) AllReadyH.nil)
  go_simp
  go_at_call 9
  with_reducible refine (lawake_any _).mono ?_
  rintro r w5 ⟨rfl, b5⟩
  (try simp only [])
  refine hK.out _ _ ⟨(b5.block _ (lt_of_block hS1.1)).trans hS1.1, seq_below hS1.2 b5⟩ (fun hS1 => ?_)
  (try simp only [Act.put, List.setIfInBounds_toArray, List.set_cons_zero, List.set_cons_succ])
  clear hK K b5
  refine wpAnyH_take (i := 15) (oi := { dst := some 42, op := Go.Op.pick (Go.Operand.tmp 40) (Go.Operand.tmp 41) (Go.Operand.const (Go.Value.bool false)), type := 4, pos := "law.go:121", after := #[{ on := 13, ground := Go.Ground.data }, { on := 14, ground := Go.Ground.data }], guard := none }) (v := .bool true) rfl (by kernel_rfl) (by kernel_rfl) (by kernel_rfl) (fun _ _ _ h => h) (Or.inl ⟨by rfl, fun w hSw => by (try dsimp only at hSw); go_simp⟩) hS1 ?_
  simp only [Act.put, List.setIfInBounds_toArray, List.set_cons_zero, List.set_cons_succ]
  refine wpAnyH_take (i := 16) (oi := { dst := some 8, op := Go.Op.assign (Go.Operand.tmp 42), type := 4, pos := "law.go:121", after := #[{ on := 15, ground := Go.Ground.data }, { on := 14, ground := Go.Ground.chain }, { on := 0, ground := Go.Ground.phase }, { on := 1, ground := Go.Ground.phase }, { on := 2, ground := Go.Ground.phase }, { on := 3, ground := Go.Ground.phase }, { on := 4, ground := Go.Ground.phase }, { on := 5, ground := Go.Ground.phase }, { on := 6, ground := Go.Ground.phase }, { on := 7, ground := Go.Ground.phase }, { on := 8, ground := Go.Ground.phase }, { on := 9, ground := Go.Ground.phase }, { on := 10, ground := Go.Ground.phase }, { on := 11, ground := Go.Ground.phase }, { on := 12, ground := Go.Ground.phase }, { on := 13, ground := Go.Ground.phase }, { on := 14, ground := Go.Ground.phase }, { on := 15, ground := Go.Ground.phase }], guard := none }) (v := .bool true) rfl (by kernel_rfl) (by kernel_rfl) (by kernel_rfl) (fun _ _ _ h => h) (Or.inl ⟨by rfl, fun w hSw => by (try dsimp only at hSw); go_simp⟩) hS1 ?_
  simp only [Act.put, List.setIfInBounds_toArray, List.set_cons_zero, List.set_cons_succ]
  refine wpAnyH_done (by kernel_rfl) ?_ _
  go_wp2
  go_ret
  exact ⟨rfl, hS1.2⟩

theorem fronts_law {w : World} (s a c d g k n : Int) {ad ao : Option Addr} {lE lZ : Nat} (cap capo : Nat) {E : List Ev} (hl : lE = E.length) (hE : RdEv w ad E) (hI : ∀ e ∈ E, e.In) {Z : List Int} (hlZ : lZ = Z.length) (hZ : RdZ w ao Z) (hs : Sl ao lZ capo) :
    Calls Try.prog 5 #[.agg (cs s a c d g k), .slice ad lE cap, .slice ao lZ capo, .int .i64 n] w fun r w' => r = .returned (.bool true) ∧ Below w.heap.size w w' := by
  by_cases h1 : 40 < lE
  · exact fronts_long s a c d g k n cap capo (.inl h1)
  by_cases h2 : 40 < lZ
  · exact fronts_long s a c d g k n cap capo (.inr h2)
  exact fronts_short s a c d g k n cap capo hl hE hI hlZ hZ hs (by omega) (by omega)
theorem lawake_at {w w' : World} (b : Below w.heap.size w w') : Calls Try.prog 9 #[] w' fun r w'' => r = .returned (.bool true) ∧ Below w.heap.size w w'' := (lawake_any w').mono fun r w'' ⟨h1, h2⟩ => ⟨h1, seq_below b h2⟩
set_option maxRecDepth 100000 in
set_option maxHeartbeats 4000000 in
theorem points_out {w : World} (s a c d g k : Int) {ad : Option Addr} {lE : Nat} (cap : Nat) (h : 7 < lE ∨ (¬ 7 < lE ∧ ∀ wr, Below w.heap.size w wr → Calls Try.prog 13 #[.agg (cs s a c d g k), .slice ad lE cap] wr fun r w' => r = .returned (.bool false) ∧ Below w.heap.size w w')) :
    Calls Try.prog 4 #[.agg (cs s a c d g k), .slice ad lE cap] w fun r w' => r = .returned (.bool true) ∧ Below w.heap.size w w' := by
  have bx := alloc_below w (.cells (cs s a c d g k) 23)
  have hq := new_obj w (.cells (cs s a c d g k) 23)
  unfold cs at *
  rcases h with h | ⟨h, hP⟩
  · have g1 : (7 : Int) < (lE : Int) := by omega
    go_enter Try.func4, Try.ntmps4
    go_wp2_with (go_at_call 9; with_reducible refine (lawake_at bx).mono ?_; rintro r w2 ⟨rfl, b2⟩)
    go_ret
    exact ⟨rfl, b2⟩
  · have g1 : ¬ (7 : Int) < (lE : Int) := by omega
    replace hP := hid1 hP
    go_enter Try.func4, Try.ntmps4
    go_upto_region 1 with fail
    generalize World.alloc _ _ = w1 at *
    generalize w.heap.size = bc at hq ⊢
    obtain ⟨s0, s1, s2, s3, s4, s5⟩ := cfg_cells hq
    go_wp2_with (first
      | (go_at_call 13; with_reducible refine (hP.out _ bx).mono ?_; rintro r w2 ⟨rfl, b2⟩)
      | (go_at_call 9; with_reducible refine (lawake_at b2).mono ?_; rintro r w3 ⟨rfl, b3⟩))
    go_ret
    exact ⟨rfl, b3⟩
set_option maxRecDepth 100000 in
set_option maxHeartbeats 4000000 in
theorem points_in {w : World} (s a c d g k : Int) {ad : Option Addr} {lE : Nat} (cap : Nat) (h7 : ¬ 7 < lE)
    (hP : ∀ wr, Below w.heap.size w wr → Calls Try.prog 13 #[.agg (cs s a c d g k), .slice ad lE cap] wr fun r w' => r = .returned (.bool true) ∧ Below wr.heap.size wr w')
    (hS : ∀ wr, Below w.heap.size w wr → Calls Try.prog 7 #[.agg (cs s a c d g k), .slice ad lE cap] wr fun r w' => ∃ (ao : Option Addr) (co : Nat), r = .returned (.tuple #[.slice ao lE co, .bool true, .int .i64 0]) ∧ Below wr.heap.size wr w' ∧
      (∀ wq, Below w'.heap.size w' wq → Calls Try.prog 10 #[.slice ad lE cap, .slice ao lE co] wq fun r w'' => r = .returned (.bool true) ∧ Below wq.heap.size wq w'') ∧
      (∀ wq, Below w'.heap.size w' wq → Calls Try.prog 14 #[.agg (cs s a c d g k), .slice ad lE cap, .slice ao lE co] wq fun r w'' => r = .returned (.int .i64 (lE : Nat)) ∧ Below wq.heap.size wq w'')) :
    Calls Try.prog 4 #[.agg (cs s a c d g k), .slice ad lE cap] w fun r w' => r = .returned (.bool true) ∧ Below w.heap.size w w' := by
  have bx := alloc_below w (.cells (cs s a c d g k) 23)
  have hq := new_obj w (.cells (cs s a c d g k) 23)
  have g1 : ¬ (7 : Int) < (lE : Int) := by omega
  clear h7
  unfold cs at *
  replace hP := hid1 hP
  replace hS := hid1 hS
  go_enter Try.func4, Try.ntmps4
  go_upto_region 1 with fail
  generalize World.alloc _ _ = w1 at *
  obtain ⟨bc, hbc⟩ : ∃ bc, w.heap.size = bc := ⟨_, rfl⟩
  rw [hbc] at hq ⊢
  have lt1 := lt_of_block hq
  have hk := hid1 fun (wr : World) (b : Below w1.heap.size w1 wr) => cfg_cells ((b.block _ lt1).trans hq)
  clear hbc lt1
  obtain ⟨s0, s1, s2, s3, s4, s5⟩ := cfg_cells hq
  clear hq
  go_upto_region 3 with (go_at_call 13; with_reducible refine (hP.out _ bx).mono ?_; rintro r w2 ⟨rfl, b2⟩)
  clear s0 s1 s2 s3 s4 s5 hP
  obtain ⟨s0, s1, s2, s3, s4, s5⟩ := hk.out _ b2
  go_upto_region 4 with (go_at_call 7; with_reducible refine (hS.out _ (seq_below bx b2)).mono ?_; rintro r w3 ⟨ao, co, rfl, b3, cR, cP⟩)
  clear s0 s1 s2 s3 s4 s5 hS
  replace b3 := seq_below b2 b3
  have bl := Below.refl w3.heap.size w3
  replace cR := hid1 cR
  replace cP := hid1 cP
  go_wp2_with (first
    | (go_at_call 10; with_reducible refine (cR.out _ bl).mono ?_; rintro r w4 ⟨rfl, b4⟩; replace bl := seq_below bl b4; clear b4; obtain ⟨s0, s1, s2, s3, s4, s5⟩ := hk.out _ (seq_below b3 bl))
    | (go_at_call 14; with_reducible refine (cP.out _ bl).mono ?_; rintro r w4 ⟨rfl, b4⟩; replace bl := seq_below bl b4; clear b4)
    | (go_at_call 9; with_reducible refine (lawake_any _).mono ?_; rintro r w4 ⟨rfl, b4⟩; replace bl := seq_below bl b4; clear b4))
  go_ret
  exact ⟨rfl, seq_below bx (seq_below b3 bl)⟩
set_option maxHeartbeats 2000000 in
theorem lpoints_law {w : World} (s a c d g k : Int) {ad : Option Addr} {lE : Nat} (cap : Nat) {E : List Ev} (hl : lE = E.length) (hE : RdEv w ad E) (hI : ∀ e ∈ E, e.In) :
    Calls Try.prog 4 #[.agg (cs s a c d g k), .slice ad lE cap] w fun r w' => r = .returned (.bool true) ∧ Below w.heap.size w w' := by
  by_cases h7 : 7 < lE
  · exact points_out s a c d g k cap (.inl h7)
  by_cases hR : rightB s a c d g k = true
  · have hc := CgI_c hR
    have hR' : rightB (CgI s a c d g k).s (CgI s a c d g k).a ((CgI s a c d g k).c : Nat) (CgI s a c d g k).d (CgI s a c d g k).g (CgI s a c d g k).k = true := by rw [hc]; exact hR
    have hP := fun (wr : World) (b : Below w.heap.size w wr) => Points_any (CgI s a c d g k) hR' cap hl (hE.below b) hI (by omega)
    have hS := fun (wr : World) (b : Below w.heap.size w wr) => Search_any (CgI s a c d g k) hR' cap hl (hE.below b) hI (by omega)
    rw [hc] at hP hS
    by_cases hp : RightP E c ∧ ∃ l, IsOrd (ltN (evP E)) lE l ∧ repF (CgI s a c d g k) E (zI l) (sx0 (CgI s a c d g k).c) = lE
    · obtain ⟨hr, l, ho, hrep⟩ := hp
      have ho' := ho
      rw [hl] at ho'
      have gd := resp_gd (C := CgI s a c d g k) (lpoints_resp hr ho') ((rep_rs _ E l _ (fun i hi => by
        obtain ⟨k, hk⟩ := List.getElem?_of_mem hi
        exact ho'.sm hk)).1 (by show repF _ E (zI l) _ = _; rw [hrep, hl, ho'.len]))
      refine points_in s a c d g k cap h7 (fun wr b => (hP wr b).mono fun r w' ⟨pb, h1, h2, h3⟩ => ⟨by rw [h1, h2.2 ⟨hr, l, ho, hrep⟩], h3⟩) (fun wr b => (hS wr b).mono fun r w' ⟨h1, h2⟩ => ?_)
      rcases h2 with ⟨O, ao, co, rfl, hO, hZ, hG, _⟩ | ⟨_, hno⟩
      · have hlz : lE = (zI O).length := by rw [zI_len]; exact hO.symm
        have hrr : repG s a c d g k E (zI O) = lE := by unfold repG; rw [if_pos hR]; exact ((rep_rs _ E O _ hG.mem).2 hG.tk).trans hO
        refine ⟨ao, co, rfl, h1, fun wq bq => ?_, fun wq bq => ?_⟩
        · have hEq := hE.below (seq_below (seq_below b h1) bq)
          exact (rresp_any cap co hl hEq (by omega) hlz (hZ.rdz.below bq)).mono fun r w'' ⟨rb, e1, e2, e3⟩ => ⟨by rw [e1, e2.2 (hG.resp (hO.trans hl))], e3⟩
        · have hEq := hE.below (seq_below (seq_below b h1) bq)
          exact (replay_gen s a c d g k cap co hl hEq hI hlz (hZ.rdz.below bq) (by omega)).mono fun r w'' ⟨e1, e2⟩ => ⟨by rw [e1, hrr], e2⟩
      · exact absurd gd.2 (hno l gd.1)
    · exact points_out s a c d g k cap (.inr ⟨h7, fun wr b => (hP wr b).mono fun r w' ⟨pb, h1, h2, h3⟩ => ⟨by
        cases pb with
        | false => exact h1
        | true => exact absurd (h2.1 rfl) hp, seq_below b h3⟩⟩)
  · exact points_out s a c d g k cap (.inr ⟨h7, fun wr b => (Points_no s a c d g k (by simpa using hR) cap).mono fun r w' ⟨h1, h2⟩ => ⟨h1, seq_below b h2⟩⟩)
end Go.Proofs.Ytecppcakgfohbab
/- LinNone: the law. -/
namespace Go.Proofs.Ytecppcakgfohbab
open Go.RowKit Go.Sort
set_option linter.unusedSimpArgs false
set_option linter.unusedVariables false

/-- What is appended: a slice of whatever number of elements. -/
structure Ap (w : World) (vy : Value) (size m : Nat) (news : List Value) : Prop where
  form : ∃ ad c, vy = .slice ad m c ∧ (m ≠ 0 → ∃ a, ad = some a ∧ ∀ j u, news[j]? = some u → w.cell? (a.add j) = some u)
  len : news.length = m * size
  one : ∀ u ∈ news, u.oneCell' = true
theorem Ap.below {w w' : World} {vy : Value} {size m : Nat} {news : List Value} (h : Ap w vy size m news) (hk : ∀ a : Addr, ∀ v, w.cell? a = some v → w'.cell? a = some v) : Ap w' vy size m news := by
  obtain ⟨⟨ad, c, rfl, h1⟩, h2, h3⟩ := h
  exact ⟨⟨ad, c, rfl, fun h0 => by obtain ⟨a, ha, hc⟩ := h1 h0; exact ⟨a, ha, fun j u hj => hk _ _ (hc j u hj)⟩⟩, h2, h3⟩
/-- Append onto an own row, of whatever number of elements. -/
theorem run_app {t e : TypeId} {z : Value} {size bytes : Nat} (ht : Try.prog.underlying t = some (.slice e)) (hinfo : (Try.prog.info? e).map (fun i => (i.zero, i.size, i.bytes)) = some (some z, size, bytes)) (hzs : z.cells.size = size) (hsz : 0 < size) (hby : bytes ≤ 200) (ty : TypeId)
    {w : World} {b : Nat} {v : Value} {n : Nat} {xs : List Value} (hown : w.ownsRow b e size v n xs) {vy : Value} {m : Nat} {news : List Value} (hs : Ap w vy size m news) (hsm : n + m ≤ 1000000) (hb : b ≤ w.heap.size) :
    ∃ v' w', (Builtin.append_ #[t, t] ty #[v, vy]).run Try.prog w = .ok v' w' ∧ w'.ownsRow b e size v' (n + m) (xs ++ news) ∧ w.grownBy w' v.ownBlock ∧ (v'.ownBlock = v.ownBlock ∨ v'.ownBlock = some w.heap.size) := by
  obtain ⟨i0, hi, hz0, hz1, hz2⟩ := info_parts hinfo
  obtain ⟨⟨ad, c, rfl, ha⟩, hl, h1⟩ := hs
  by_cases hm : m = 0
  · subst hm
    have hnil : news = [] := List.eq_nil_of_length_eq_zero (by omega)
    subst hnil
    obtain ⟨adv, cv, rfl⟩ := own_form hown
    have hle : n ≤ cv := by
      rcases hown.2 with ⟨he, rfl⟩ | ⟨g, cap, cur, he, _, _, hnc, _⟩
      · exact Nat.zero_le _
      · simp only [Value.slice.injEq] at he
        obtain ⟨_, _, rfl⟩ := he
        exact hnc
    have hsrc : Src Try.prog i0.size t (.slice ad 0 c) 0 [] w := by
      cases ad with
      | none => exact Src.ofNil w ht c
      | some a => exact Src.ofSlice w ht a 0 c [] (by simp) (fun j u h => by simp at h) (fun u h => by simp at h)
    exact ⟨_, w, run_append_nothing w t t ty e i0 ht hi adv n cv hle _ hsrc, by rw [List.append_nil]; exact hown, ⟨rfl, rfl, rfl, Nat.le_refl _, fun _ _ _ => rfl⟩, .inl rfl⟩
  · obtain ⟨a, rfl, hc⟩ := ha hm
    have hbytes : (n + m) * bytes ≤ 140737488355328 := by
      have : (n + m) * bytes ≤ 1000000 * 200 := Nat.mul_le_mul hsm hby
      omega
    obtain ⟨v', w', hr, h2, h3, _, h4⟩ := run_append_own_at (P := Try.prog) w b t ty e i0 z size bytes ht hi hz0 hz1 hz2 hzs hsz v n xs hown a m c news hl hc h1 (by unfold maxLen; omega) hbytes hb
    exact ⟨v', w', hr, h2, h3, h4⟩
/-- At the operation. -/
theorem wpList_app {t e : TypeId} {z : Value} {size bytes : Nat} (ht : Try.prog.underlying t = some (.slice e)) (hinfo : (Try.prog.info? e).map (fun i => (i.zero, i.size, i.bytes)) = some (some z, size, bytes)) (hzs : z.cells.size = size) (hsz : 0 < size) (hby : bytes ≤ 200)
    {w : World} {ops : Array Oper} {rest : List Oper} {o : Oper} {a : Act} {Q : Exit → Act → World → Prop} (hgd : o.guard = none) (s x : Operand)
    (ho : o.op = .call { callee := .builtin .append, args := #[s, x], argTypes := #[t, t] })
    {b : Nat} {v : Value} {n : Nat} {xs : List Value} (hs : a.eval s = v) (hown : w.ownsRow b e size v n xs) {vy : Value} {m : Nat} {news : List Value} (hx : a.eval x = vy) (hap : Ap w vy size m news) (hsm : n + m ≤ 1000000) (hb : b ≤ w.heap.size)
    (h : ∀ v' w', w'.ownsRow b e size v' (n + m) (xs ++ news) → w.grownBy w' v.ownBlock → (v'.ownBlock = v.ownBlock ∨ v'.ownBlock = some w.heap.size) → wpList Try.prog ops Q rest (a.put o.dst v') w') : wpList Try.prog ops Q (o :: rest) a w := by
  refine wpList_plain hgd fun K hK => ?_
  obtain ⟨v', w', hr, h2, h3, h4⟩ := run_app ht hinfo hzs hsz hby o.type hown hap hsm hb
  unfold Oper.wp execOp
  simp only [ho, resolve, invoke, builtin, Sem.run_bind, Sem.run_pure, Result.andThen_ok, List.map_toArray, List.map_cons, List.map_nil, hs, hx, hr]
  exact hK _ _ (h v' w' h2 h3 h4)
def evL (M : List Ev) : List Value := M.flatMap fun e => e.row.toList
theorem evL_at : ∀ (M : List Ev) (i k : Nat) (e : Ev), M[i]? = some e → k < 14 → (evL M)[i * 14 + k]? = e.row[k]?
  | [], i, k, e, h, _ => by simp at h
  | f :: M, 0, k, e, h, hk => by
    obtain rfl : f = e := by simpa using h
    unfold evL
    rw [List.flatMap_cons, List.getElem?_append_left (by show 0 * 14 + k < 14; omega)]
    simp
  | f :: M, i + 1, k, e, h, hk => by
    have ih := evL_at M i k e (by simpa using h) hk
    unfold evL at ih ⊢
    have hl : f.row.toList.length = 14 := rfl
    rw [List.flatMap_cons, List.getElem?_append_right (by rw [hl]; omega), hl, show (i + 1) * 14 + k - 14 = i * 14 + k by omega]
    exact ih
theorem own_ev {w : World} {base n cp : Nat} {a : Option Addr} {M : List Ev} (hn : n = M.length) (h : w.ownsRow base 43 14 (.slice a n cp) n (evL M)) : RdEv w a M := fun i e hi => by
  have hlt := (List.getElem?_eq_some_iff.1 hi).1
  rcases h.2 with ⟨_, h0⟩ | ⟨g, cap, cur, hv, _, hh, _, _, _, h5⟩
  · omega
  · simp only [Value.slice.injEq] at hv
    obtain ⟨rfl, _, rfl⟩ := hv
    refine ⟨g, 0, rfl, lt_of_block hh, fun k hk => ?_⟩
    simp only [World.cell?, hh]
    show cur[0 + i * 14 + k]? = _
    have q := evL_at M i k e hi hk
    rw [← h5, List.getElem?_take, if_pos (by omega)] at q
    rw [Nat.zero_add, ← q]
    simp
theorem infoE : (Try.prog.info? 43).map (fun i => (i.zero, i.size, i.bytes)) = some (some (.agg #[.int .i64 0, .int .i64 0, .int .i64 0, .int .i64 0, .int .i64 0, .bool false, .int .i64 0, .int .i64 0, .int .u64 0, .int .u64 0, .int .u64 0, .int .i64 0, .int .u64 0, .bool false]), 14, 112) := by kernel_rfl
theorem infoE_parts : ∃ i, Try.prog.info? 43 = some i ∧ i.zero = some (.agg #[.int .i64 0, .int .i64 0, .int .i64 0, .int .i64 0, .int .i64 0, .bool false, .int .i64 0, .int .i64 0, .int .u64 0, .int .u64 0, .int .u64 0, .int .i64 0, .int .u64 0, .bool false]) ∧ i.size = 14 ∧ i.bytes = 112 := by
  have h := infoE
  cases hi : Try.prog.info? 43 with
  | none => rw [hi] at h; cases h
  | some i =>
    rw [hi] at h
    simp only [Option.map_some, Option.some.injEq, Prod.mk.injEq] at h
    exact ⟨i, rfl, h.1, h.2.1, h.2.2⟩
theorem ap_ev {w : World} {ad : Option Addr} {c : Nat} {E : List Ev} {n : Nat} (hn : n = E.length) (h : RdEv w ad E) : Ap w (.slice ad n c) 14 n (evL E) := by
  have len : ∀ M : List Ev, (evL M).length = M.length * 14 := fun M => by
    induction M with
    | nil => rfl
    | cons e M ih =>
      show (e.row.toList ++ evL M).length = _
      rw [List.length_append, ih]
      show 14 + M.length * 14 = (M.length + 1) * 14
      omega
  have one : ∀ M : List Ev, ∀ u ∈ evL M, u.oneCell' = true := fun M => by
    induction M with
    | nil => intro u hu; cases hu
    | cons e M ih =>
      intro u hu
      rcases List.mem_append.1 (show u ∈ e.row.toList ++ evL M from hu) with q | q
      · simp only [Ev.row, List.mem_cons, List.not_mem_nil, or_false] at q
        rcases q with rfl | rfl | rfl | rfl | rfl | rfl | rfl | rfl | rfl | rfl | rfl | rfl | rfl | rfl <;> rfl
      · exact ih u q
  subst hn
  refine ⟨⟨ad, c, rfl, fun h0 => ?_⟩, len E, one E⟩
  obtain ⟨x, hx⟩ : ∃ x, E[0]? = some x := ⟨_, List.getElem?_eq_getElem (by omega)⟩
  obtain ⟨b, off, h1, _, _⟩ := h 0 x hx
  refine ⟨_, h1, fun j u hj => ?_⟩
  have hjl : j < E.length * 14 := by have := (List.getElem?_eq_some_iff.1 hj).1; rwa [len] at this
  obtain ⟨y, hy⟩ : ∃ y, E[j / 14]? = some y := ⟨_, List.getElem?_eq_getElem (by omega)⟩
  obtain ⟨b2, off2, h3, _, h4⟩ := h (j / 14) y hy
  rw [h1] at h3
  simp only [Option.some.injEq, Addr.mk.injEq, and_true] at h3
  obtain ⟨rfl, rfl⟩ := h3
  have q := evL_at E (j / 14) (j % 14) y hy (by omega)
  rw [show j / 14 * 14 + j % 14 = j by omega] at q
  rw [q] at hj
  rw [add_none, show off + j = off + j / 14 * 14 + j % 14 by omega, h4 (j % 14) (by omega)]
  exact hj
theorem ds_err {C : Cg} {X : Sx} {who kd cN : Int} {cH cX cY : Nat} {aE : Int} {aH : Nat} {aY : Bool} (h : 20 ≤ aE) : dsO C X who kd cN cH cX cY aE aH aY = none := by
  have hs : ∀ (x : Int) (p : Int) (q : Bool), x < 20 → sameA aE aH aY x p q = false := fun x p q hx => by
    unfold sameA
    exact decide_eq_false fun e => by have := e.1; omega
  have g : gvB X aE aH aY = false := by unfold gvB; rw [hs 0 aH false (by omega)]; simp
  have r : ∀ (x : Int) (p : Int) (q : Bool), x < 20 → refO X (sameA aE aH aY x p q) = none := fun x p q hx => by rw [hs x p q hx]; rfl
  have r0 : refO X false = none := rfl
  unfold dsO kdO mkO ldO wrO rlO cpO opO nxO clO tkO
  simp only [r0, r _ _ _ (show (0 : Int) < 20 by omega), r _ _ _ (show (1 : Int) < 20 by omega), r _ _ _ (show (2 : Int) < 20 by omega), r _ _ _ (show (3 : Int) < 20 by omega), r _ _ _ (show (4 : Int) < 20 by omega), r _ _ _ (show (5 : Int) < 20 by omega), r _ _ _ (show (6 : Int) < 20 by omega), r _ _ _ (show (7 : Int) < 20 by omega), r _ _ _ (show (8 : Int) < 20 by omega), hs _ _ _ (show (4 : Int) < 20 by omega), hs _ _ _ (show (0 : Int) < 20 by omega), g, Bool.false_eq_true, if_false, ite_self]
theorem rsX_mem {C : Cg} {E : List Ev} {k : Nat} : ∀ (P : List Nat) (X : Sx), (rsX C E P X).isSome = true → k ∈ P → ∃ X', (evS C X' (evD E k)).isSome = true
  | i :: P, X, h, hk => by
    unfold rsX at h
    cases ho : evS C X (evD E i) with
    | none => rw [ho] at h; cases h
    | some X' =>
      rw [ho] at h
      rcases List.mem_cons.1 hk with rfl | hk
      · exact ⟨X, by rw [ho]; rfl⟩
      · exact rsX_mem P X' h hk
theorem Gd.has {C : Cg} {E : List Ev} {P : List Nat} (h : Gd C E P) (hl : P.length = E.length) {k : Nat} (hk : k < E.length) : k ∈ P := by
  by_cases hm : k ∈ P
  · exact hm
  · have nd : P.Nodup := by
      rw [List.nodup_iff_pairwise_ne, List.pairwise_iff_getElem]
      intro i j hi hj hij
      exact h.nodup (List.getElem?_eq_getElem hi) (List.getElem?_eq_getElem hj) hij
    have := nod_len2 E.length (k :: P) (List.nodup_cons.2 ⟨hm, nd⟩) fun x hx => by
      rcases List.mem_cons.1 hx with rfl | hx
      · exact hk
      · exact h.mem x hx
    simp only [List.length_cons] at this
    omega
/-- Events of which one bears an answer that is never given. -/
def badE (E : List Ev) (k : Nat) (er : Int) : List Ev := E.set k { evD E k with er := er }
theorem badE_len (E : List Ev) (k : Nat) (er : Int) : (badE E k er).length = E.length := by simp [badE]
theorem badE_in {E : List Ev} {k : Nat} {er : Int} (hk : k < E.length) (h : ∀ e ∈ E, e.In) : ∀ e ∈ badE E k er, e.In := fun e he => by
  rcases List.mem_or_eq_of_mem_set he with q | q
  · exact h e q
  · subst q
    exact h (evD E k) (List.mem_of_getElem? (at_evD hk))
theorem badE_no {C : Cg} {E : List Ev} {k : Nat} {er : Int} (hk : k < E.length) (he : 20 ≤ er) (P : List Nat) (X : Sx) (h : (rsX C (badE E k er) P X).isSome = true) : k ∉ P := fun hm => by
  obtain ⟨X', q⟩ := rsX_mem P X h hm
  have e : evD (badE E k er) k = { evD E k with er := er } := by
    unfold badE
    exact evD_at (by rw [List.getElem?_set_self hk])
  rw [e] at q
  unfold evS at q
  rw [ds_err he] at q
  cases q
theorem badE_gd {C : Cg} {E : List Ev} {k : Nat} {er : Int} (hk : k < E.length) (he : 20 ≤ er) (P : List Nat) (h : Gd C (badE E k er) P) : P.length ≠ (badE E k er).length := fun hl =>
  badE_no hk he P _ h.tk (h.has hl (by rw [badE_len]; exact hk))
theorem badE_ord {C : Cg} {E : List Ev} {k : Nat} {er : Int} (hk : k < E.length) (he : 20 ≤ er) {n : Nat} (hn : n = (badE E k er).length) {l : List Nat} (ho : IsOrd (ltN (evP (badE E k er))) n l) : repF C (badE E k er) (zI l) (sx0 C.c) ≠ n := fun h => by
  subst hn
  have hlt : ∀ i ∈ l, i < (badE E k er).length := fun i hi => by
    obtain ⟨j, hj⟩ := List.getElem?_of_mem hi
    exact ho.sm hj
  have q := (rep_rs C (badE E k er) l (sx0 C.c) hlt).1 (h.trans ho.len.symm)
  refine badE_no hk he l _ q (ho.perm.symm.mem_iff.1 ?_)
  rw [List.mem_range, badE_len]
  exact hk
/-- The row that was copied, and its answer turned. -/
theorem bad_rd {w : World} {g cap : Nat} {E : List Ev} {k : Nat} {er : Int} {b : Nat} (h : w.ownsRow b 43 14 (.slice (some ⟨g, 0, none⟩) E.length cap) E.length (evL E)) (hk : k < E.length) : RdEv (w.setCell ⟨g, k * 14 + 11, none⟩ (.int .i64 er)) (some ⟨g, 0, none⟩) (badE E k er) := fun i e hi => by
  have hr := own_ev rfl h
  have hil : i < E.length := by have := (List.getElem?_eq_some_iff.1 hi).1; rwa [badE_len] at this
  obtain ⟨g2, off, ha, hlt, hc⟩ := hr i (evD E i) (at_evD hil)
  simp only [Option.some.injEq, Addr.mk.injEq, and_true] at ha
  obtain ⟨rfl, rfl⟩ := ha
  refine ⟨g, 0, rfl, by simpa [World.setCell] using hlt, fun j hj => ?_⟩
  rcases h.2 with ⟨_, h0⟩ | ⟨g', cap', cur, hv, _, hh, _, _, hsz, h5⟩
  · omega
  · simp only [Value.slice.injEq, Option.some.injEq, Addr.mk.injEq] at hv
    obtain ⟨⟨rfl, -⟩, -, rfl⟩ := hv
    have hp := heap_put (o := k * 14 + 11) hh (.int .i64 er)
    have hcj := hc j hj
    simp only [World.cell?, hh] at hcj
    simp only [World.cell?, hp]
    rw [Nat.zero_add] at hcj ⊢
    by_cases hik : i = k
    · subst hik
      have hee : e = { evD E i with er := er } := by
        unfold badE at hi
        rw [List.getElem?_set_self hil] at hi
        exact (Option.some.inj hi).symm
      subst hee
      by_cases hj11 : j = 11
      · subst hj11
        rw [Array.getElem?_setIfInBounds_self_of_lt (by
          have := (Array.getElem?_eq_some_iff.1 (hcj.trans (show (evD E i).row[11]? = some (.int .i64 (evD E i).er) from rfl))).1
          exact this)]
        rfl
      · rw [Array.getElem?_setIfInBounds_ne (by omega), hcj]
        match j, hj, hj11 with
        | 0, _, _ => rfl
        | 1, _, _ => rfl
        | 2, _, _ => rfl
        | 3, _, _ => rfl
        | 4, _, _ => rfl
        | 5, _, _ => rfl
        | 6, _, _ => rfl
        | 7, _, _ => rfl
        | 8, _, _ => rfl
        | 9, _, _ => rfl
        | 10, _, _ => rfl
        | 12, _, _ => rfl
        | 13, _, _ => rfl
        | 11, _, h => exact absurd rfl h
        | j + 14, hj, _ => omega
    · have hee : e = evD E i := by
        unfold badE at hi
        rw [List.getElem?_set_ne (fun q => hik q.symm), at_evD hil] at hi
        exact (Option.some.inj hi).symm
      subst hee
      rw [Array.getElem?_setIfInBounds_ne (by omega), hcj]

set_option maxRecDepth 100000 in
set_option maxHeartbeats 4000000 in
theorem none_out {w : World} (s a c d g k n x : Int) {ad : Option Addr} {lE : Nat} (cap : Nat) (h : lE = 0 ∨ 7 < lE ∨ (0 < lE ∧ ¬ 7 < lE ∧ rightB s a c d g k = false)) :
    Calls Try.prog 6 #[.agg (cs s a c d g k), .slice ad lE cap, .int .i64 n, .int .u8 x] w fun r w' => r = .returned (.bool true) ∧ Below w.heap.size w w' := by
  have bx := alloc_below w (.cells (cs s a c d g k) 23)
  have hq := new_obj w (.cells (cs s a c d g k) 23)
  have cR := r6right_any s a c d g k
  unfold cs at *
  rcases h with h | h | ⟨h1, h2, h3⟩
  · have g1 : ((lE : Int) == 0) = true := by simp; omega
    clear cR
    go_enter Try.func6, Try.ntmps6
    go_wp2_with (go_at_call 9; with_reducible refine (lawake_at bx).mono ?_; rintro r w2 ⟨rfl, b2⟩)
    go_ret
    exact ⟨rfl, b2⟩
  · have g1 : ((lE : Int) == 0) = false := by simp; omega
    have g2 : (7 : Int) < (lE : Int) := by omega
    clear cR
    go_enter Try.func6, Try.ntmps6
    go_wp2_with (go_at_call 9; with_reducible refine (lawake_at bx).mono ?_; rintro r w2 ⟨rfl, b2⟩)
    go_ret
    exact ⟨rfl, b2⟩
  · have g1 : ((lE : Int) == 0) = false := by simp; omega
    have g2 : ¬ (7 : Int) < (lE : Int) := by omega
    rw [h3] at cR
    replace cR := hid1 cR
    go_enter Try.func6, Try.ntmps6
    go_upto_region 1 with fail
    generalize World.alloc _ _ = w1 at *
    generalize w.heap.size = bc at hq ⊢
    obtain ⟨s0, s1, s2, s3, s4, s5⟩ := cfg_cells hq
    go_wp2_with (first
      | (go_at_call 8; with_reducible refine (cR.out _).mono ?_; rintro r w2 ⟨rfl, b2⟩; replace b2 := seq_below bx b2)
      | (go_at_call 9; with_reducible refine (lawake_at b2).mono ?_; rintro r w3 ⟨rfl, b3⟩))
    go_ret
    exact ⟨rfl, b3⟩
set_option maxRecDepth 100000 in
set_option maxHeartbeats 4000000 in
theorem none_in {w : World} (s a c d g k n x : Int) {ad : Option Addr} {lE : Nat} (cap : Nat) {E : List Ev} (hl : lE = E.length) (hE : RdEv w ad E) (hI : ∀ e ∈ E, e.In) (h0 : 0 < lE) (h7 : ¬ 7 < lE) (hR : rightB s a c d g k = true) (hx : 0 ≤ x ∧ x ≤ 255) :
    Calls Try.prog 6 #[.agg (cs s a c d g k), .slice ad lE cap, .int .i64 n, .int .u8 x] w fun r w' => r = .returned (.bool true) ∧ Below w.heap.size w w' := by
  have bx := alloc_below w (.cells (cs s a c d g k) 23)
  have hq := new_obj w (.cells (cs s a c d g k) 23)
  have cR := r6right_any s a c d g k
  rw [hR] at cR
  have hc := CgI_c hR
  have hR' : rightB (CgI s a c d g k).s (CgI s a c d g k).a ((CgI s a c d g k).c : Nat) (CgI s a c d g k).d (CgI s a c d g k).g (CgI s a c d g k).k = true := by rw [hc]; exact hR
  have hP := fun (wr : World) (ad' : Option Addr) (cap' : Nat) (E' : List Ev) (hl' : lE = E'.length) (hE' : RdEv wr ad' E') (hI' : ∀ e ∈ E', e.In) => Points_any (CgI s a c d g k) hR' cap' hl' hE' hI' (by omega)
  have hS := fun (wr : World) (ad' : Option Addr) (cap' : Nat) (E' : List Ev) (hl' : lE = E'.length) (hE' : RdEv wr ad' E') (hI' : ∀ e ∈ E', e.In) => Search_any (CgI s a c d g k) hR' cap' hl' hE' hI' (by omega)
  rw [hc] at hP hS
  replace hP := hid1 hP
  replace hS := hid1 hS
  obtain ⟨m, hm0, hm⟩ : ∃ m : Nat, wrap64 ((IntKind.u64.wrap n).tmod (lE : Int)) = (m : Int) ∧ m < lE := by
    obtain ⟨l, rfl⟩ : ∃ l, lE = l + 1 := ⟨lE - 1, by omega⟩
    obtain ⟨m, h1, h2⟩ := pick_in n l (by omega)
    exact ⟨m, by rw [← h1]; rfl, by omega⟩
  have g1 : ((lE : Int) == 0) = false := by simp; omega
  have g2 : ¬ (7 : Int) < (lE : Int) := by omega
  have e3 : ¬ IntKind.u64.wrap (lE : Int) = 0 := by rw [IntKind.wrap_u64]; omega
  have e4 : IntKind.u64.wrap (lE : Int) = (lE : Int) := by rw [IntKind.wrap_u64]; omega
  have e5 : ¬ (lE : Int) = 0 := by omega
  clear hR' hc hR h0 h7
  replace hl := hid1 hl
  replace hE := hid1 hE
  replace hI := hid1 hI
  replace hx := hid1 hx
  unfold cs at *
  replace cR := hid1 cR
  go_enter Try.func6, Try.ntmps6
  go_upto_region 1 with fail
  generalize World.alloc _ _ = w1 at *
  obtain ⟨bc, hbc⟩ : ∃ bc, w.heap.size = bc := ⟨_, rfl⟩
  rw [hbc] at hq ⊢
  have lt1 := lt_of_block hq
  have hk := hid1 fun (wr : World) (b : Below w1.heap.size w1 wr) => cfg_cells ((b.block _ lt1).trans hq)
  clear hbc lt1
  obtain ⟨s0, s1, s2, s3, s4, s5⟩ := cfg_cells hq
  clear hq
  go_upto_region 4 with (go_at_call 8; with_reducible refine (cR.out _).mono ?_; rintro r w2 ⟨rfl, b2⟩)
  rw [hm0]
  clear hm0 s0 s1 s2 s3 s4 s5 cR
  have hown0 : (w2.alloc (.cells #[] 43)).ownsRow w2.heap.size 43 14 (.slice (some ⟨w2.heap.size, 0, none⟩) 0 0) 0 [] := ⟨rfl, .inr ⟨w2.heap.size, 0, #[], rfl, Nat.le_refl _, new_obj w2 _, Nat.le_refl _, by decide, rfl, rfl⟩⟩
  have bA := alloc_below w2 (.cells #[] 43)
  have hap : Ap (w2.alloc (.cells #[] 43)) (.slice ad lE cap) 14 lE (evL E) := ap_ev hl.out (hE.out.below (seq_below (seq_below bx b2) bA))
  have hsm : 0 + lE ≤ 1000000 := by have := hm; omega
  have hbA : w2.heap.size ≤ (w2.alloc (.cells #[] 43)).heap.size := bA.size
  replace hap := hid1 hap
  replace hown0 := hid1 hown0
  replace hsm := hid1 hsm
  replace hbA := hid1 hbA
  replace bA := hid1 bA
  go_upto_region 5 with (at_builtin; refine wpList_app Try.underlying24 infoE rfl (by decide) (by decide) rfl _ _ rfl rfl hown0.out rfl hap.out hsm.out hbA.out ?_; intro v5 w5 hown5 g5 hp5)
  rw [Nat.zero_add] at hown5
  obtain ⟨a5, c5, hv5⟩ := own_form hown5
  subst hv5
  obtain ⟨gg, rfl⟩ : ∃ g, a5 = some ⟨g, 0, none⟩ := by
    rcases hown5.2 with ⟨q, q0⟩ | ⟨g, cp, cur, q, _⟩
    · omega
    · simp only [Value.slice.injEq] at q
      exact ⟨g, q.1⟩
  have hgw : w2.heap.size ≤ gg := by
    rcases hown5.2 with ⟨q, q0⟩ | ⟨g, cp, cur, q, hb, _⟩
    · omega
    · simp only [Value.slice.injEq, Option.some.injEq, Addr.mk.injEq] at q
      obtain ⟨⟨rfl, -⟩, -⟩ := q
      exact hb
  have hme : m < E.length := by have := hl.out; omega
  have hrd5 := own_ev hl.out hown5
  obtain ⟨g', o', ha', hlt', hc'⟩ := hrd5 m (evD E m) (at_evD hme)
  simp only [Option.some.injEq, Addr.mk.injEq, and_true] at ha'
  obtain ⟨rfl, rfl⟩ := ha'
  have x11 : w5.cell? ⟨gg, m * 14 + 11, none⟩ = some (.int .i64 (evD E m).er) := by have q := hc' 11 (by decide); rw [Nat.zero_add] at q; exact q
  have f11 : w5.frozen? ⟨gg, m * 14 + 11, none⟩ = false := by
    rcases hown5.2 with ⟨q, q0⟩ | ⟨g, cp, cur, q, _, hh, _⟩
    · omega
    · simp only [Value.slice.injEq, Option.some.injEq, Addr.mk.injEq] at q
      obtain ⟨⟨rfl, -⟩, -⟩ := q
      simp [World.frozen?, hh]
  have g3 : (0 : Int) ≤ (m : Int) := by omega
  have g4 : (m : Int) < (lE : Int) := by omega
  have e6 : IntKind.i64.wrap x = x := by have := hx.out; rw [IntKind.wrap_i64]; omega
  have e7 : IntKind.i64.wrap (20 + x) = 20 + x := by have := hx.out; rw [IntKind.wrap_i64]; omega
  have hrd6 : RdEv (w5.setCell ⟨gg, m * 14 + 11, none⟩ (.int .i64 (20 + x))) (some ⟨gg, 0, none⟩) (badE E m (20 + x)) := bad_rd (by rw [← hl.out]; exact hown5) hme
  have b6 : Below w2.heap.size w2 (w5.setCell ⟨gg, m * 14 + 11, none⟩ (.int .i64 (20 + x))) :=
    (((Chg.of_below (L := fun _ => False) bA.out).grown g5 (fun y hy => .inr (by obtain rfl : w2.heap.size = y := Option.some.inj hy; exact Nat.le_refl _))).setCell (o := m * 14 + 11) (.inr hgw) (.int .i64 (20 + x))).below (Below.refl _ _) (fun i hi => hi.elim) (Nat.le_refl _)
  have hl6 : lE = (badE E m (20 + x)).length := by rw [badE_len]; exact hl.out
  have hI6 := badE_in (er := 20 + x) hme hI.out
  have cS := hid1 fun (wr : World) (b : Below (w5.setCell ⟨gg, m * 14 + 11, none⟩ (.int .i64 (20 + x))).heap.size (w5.setCell ⟨gg, m * 14 + 11, none⟩ (.int .i64 (20 + x))) wr) => hS.out wr (some ⟨gg, 0, none⟩) c5 _ hl6 (hrd6.below b) hI6
  have cP := hid1 fun (wr : World) (b : Below (w5.setCell ⟨gg, m * 14 + 11, none⟩ (.int .i64 (20 + x))).heap.size (w5.setCell ⟨gg, m * 14 + 11, none⟩ (.int .i64 (20 + x))) wr) => hP.out wr (some ⟨gg, 0, none⟩) c5 _ hl6 (hrd6.below b) hI6
  have noS := hid1 (badE_gd (C := CgI s a c d g k) hme (show (20 : Int) ≤ 20 + x by have := hx.out; omega))
  have noP := hid1 fun (l : List Nat) => badE_ord (C := CgI s a c d g k) hme (show (20 : Int) ≤ 20 + x by have := hx.out; omega) (l := l) hl6
  replace b6 := hid1 b6
  replace hl6 := hid1 hl6
  clear hrd6 hI6 hrd5 hc' hlt' hown5 g5 hp5 hgw hme hap hown0 hsm hbA bA hP hS hm
  go_upto_region 6 with fail
  clear x11 f11
  generalize World.setCell _ _ _ = w6 at *
  replace b2 := seq_below b2 b6.out
  clear b6
  obtain ⟨s0, s1, s2, s3, s4, s5⟩ := hk.out _ b2
  have bl := Below.refl w6.heap.size w6
  replace cS := hid1 (cS.out w6 bl)
  go_upto_region 7 with (go_at_call 7; refine cS.out.mono ?_; rintro r w7 ⟨b7, hr⟩; rcases hr with ⟨O, ao, co, rfl, h1, h2, h3, h4⟩ | ⟨rfl, h1⟩)
  · exact absurd (h1.trans hl6.out) (noS.out O h3)
  · clear s0 s1 s2 s3 s4 s5 cS h1
    obtain ⟨s0, s1, s2, s3, s4, s5⟩ := hk.out _ (seq_below b2 b7)
    replace cP := hid1 (cP.out w7 b7)
    go_wp2_with (first
      | (go_at_call 13; refine cP.out.mono ?_; rintro r w8 ⟨pb, rfl, hp, b8⟩; obtain rfl : pb = false := (by
          cases hb : pb with
          | false => rfl
          | true =>
            obtain ⟨_, l, ho, hrep⟩ := hp.1 hb
            exact absurd hrep (noP.out l ho)); replace b7 := seq_below b7 b8; clear b8 hp)
      | (go_at_call 9; with_reducible refine (lawake_any _).mono ?_; rintro r w8 ⟨rfl, b8⟩; replace b7 := seq_below b7 b8; clear b8))
    go_ret
    exact ⟨rfl, seq_below bx (seq_below b2 b7)⟩
theorem none_law {w : World} (s a c d g k n x : Int) {ad : Option Addr} {lE : Nat} (cap : Nat) {E : List Ev} (hl : lE = E.length) (hE : RdEv w ad E) (hI : ∀ e ∈ E, e.In) (hx : 0 ≤ x ∧ x ≤ 255) :
    Calls Try.prog 6 #[.agg (cs s a c d g k), .slice ad lE cap, .int .i64 n, .int .u8 x] w fun r w' => r = .returned (.bool true) ∧ Below w.heap.size w w' := by
  by_cases h0 : lE = 0
  · exact none_out s a c d g k n x cap (.inl h0)
  by_cases h7 : 7 < lE
  · exact none_out s a c d g k n x cap (.inr (.inl h7))
  cases hR : rightB s a c d g k with
  | false => exact none_out s a c d g k n x cap (.inr (.inr ⟨by omega, h7, hR⟩))
  | true => exact none_in s a c d g k n x cap hl hE hI (by omega) h7 hR hx
end Go.Proofs.Ytecppcakgfohbab
/- Events that came in, opened. -/
namespace Go.Proofs.Ytecppcakgfohbab
open Go.ChangeShapes Go.WideShapes Go.ChangeAt Go.RowKit Go.Deep
set_option linter.unusedVariables false

theorem nat_u64 {z : Int} (h : (Lit.int .u64 z).wf = true) : ∃ n : Nat, z = (n : Int) ∧ n < 18446744073709551616 := by
  have q := h
  simp only [Lit.wf, Bool.and_eq_true, decide_eq_true_eq] at q
  have q1 : (0 : Int) ≤ z := q.1
  have q2 : z ≤ 18446744073709551615 := q.2
  exact ⟨z.toNat, by omega, by omega⟩
theorem choose_lt {α : Type} {len : Nat} (h0 : 0 < len) {p : Nat → α → Prop} (h : ∀ i, i < len → ∃ z, p i z) : ∃ Z : Nat → α, ∀ i, i < len → p i (Z i) := by
  obtain ⟨z0, _⟩ := h 0 h0
  exact ⟨fun i => if hi : i < len then Classical.choose (h i hi) else z0, fun i hi => by simp only [hi, dite_true]; exact Classical.choose_spec (h i hi)⟩
theorem lt_of_cell {w : World} {b o : Nat} {v : Value} (h : w.cell? ⟨b, o, none⟩ = some v) : b < w.heap.size := by
  unfold World.cell? at h
  simp only at h
  cases hb : w.heap[b]? with
  | none => rw [hb] at h; cases h
  | some x => exact lt_of_block hb
set_option maxRecDepth 100000 in
theorem open_callL {H : Type} {enc : TypeId × Value → H} {w : World} {l : List Value} {fuel : Nat} {x : DataW H × List MemPlace}
    (h : DataW.trod enc Try.prog w 0 (fun _ => true) true fuel 41 l = some x) :
    ∃ (z0 : Int) (z1 : Int) (z2 : Nat) (z3 : Nat) (z4 : Nat), l = [.int .i64 z0, .int .i64 z1, .int .u64 (z2 : Nat), .int .u64 (z3 : Nat), .int .u64 (z4 : Nat)] ∧ z2 < 18446744073709551616 ∧ z3 < 18446744073709551616 ∧ z4 < 18446744073709551616 := by
  obtain ⟨xs, m, rfl, -, hl, hx, hf⟩ := DataW.trod_struct Try.underlying41 h
  have hl6 : l.length = 5 := hl.trans (by kernel_rfl)
  have hx6 : xs.length = 5 := hx
  match l, hl6, xs, hx6 with
  | [c0, c1, c2, c3, c4], _, [x0, x1, x2, x3, x4], _ =>
    have f0 : DataW.trod enc Try.prog w 0 (fun _ => true) true m 3 (([c0, c1, c2, c3, c4].drop 0).take (Try.prog.cellsOf 3)) = some x0 := hf 0 _ rfl
    rw [show Try.prog.cellsOf 3 = 1 from by kernel_rfl] at f0
    obtain ⟨z0, e0, -, w0⟩ := DataW.trod_int Try.underlying3 (x := x0) f0
    have f1 : DataW.trod enc Try.prog w 0 (fun _ => true) true m 3 (([c0, c1, c2, c3, c4].drop 1).take (Try.prog.cellsOf 3)) = some x1 := hf 1 _ rfl
    rw [show Try.prog.cellsOf 3 = 1 from by kernel_rfl] at f1
    obtain ⟨z1, e1, -, w1⟩ := DataW.trod_int Try.underlying3 (x := x1) f1
    have f2 : DataW.trod enc Try.prog w 0 (fun _ => true) true m 37 (([c0, c1, c2, c3, c4].drop 2).take (Try.prog.cellsOf 37)) = some x2 := hf 2 _ rfl
    rw [show Try.prog.cellsOf 37 = 1 from by kernel_rfl] at f2
    obtain ⟨y2, e2, -, w2⟩ := DataW.trod_int Try.underlying37 (x := x2) f2
    obtain ⟨z2, rfl, b2⟩ := nat_u64 w2
    have f3 : DataW.trod enc Try.prog w 0 (fun _ => true) true m 37 (([c0, c1, c2, c3, c4].drop 3).take (Try.prog.cellsOf 37)) = some x3 := hf 3 _ rfl
    rw [show Try.prog.cellsOf 37 = 1 from by kernel_rfl] at f3
    obtain ⟨y3, e3, -, w3⟩ := DataW.trod_int Try.underlying37 (x := x3) f3
    obtain ⟨z3, rfl, b3⟩ := nat_u64 w3
    have f4 : DataW.trod enc Try.prog w 0 (fun _ => true) true m 37 (([c0, c1, c2, c3, c4].drop 4).take (Try.prog.cellsOf 37)) = some x4 := hf 4 _ rfl
    rw [show Try.prog.cellsOf 37 = 1 from by kernel_rfl] at f4
    obtain ⟨y4, e4, -, w4⟩ := DataW.trod_int Try.underlying37 (x := x4) f4
    obtain ⟨z4, rfl, b4⟩ := nat_u64 w4
    simp at e0
    subst e0
    simp at e1
    subst e1
    simp at e2
    subst e2
    simp at e3
    subst e3
    simp at e4
    subst e4
    exact ⟨z0, z1, z2, z3, z4, rfl, b2, b3, b4⟩
set_option maxRecDepth 100000 in
theorem open_answerL {H : Type} {enc : TypeId × Value → H} {w : World} {l : List Value} {fuel : Nat} {x : DataW H × List MemPlace}
    (h : DataW.trod enc Try.prog w 0 (fun _ => true) true fuel 39 l = some x) :
    ∃ (z0 : Int) (z1 : Nat) (z2 : Bool), l = [.int .i64 z0, .int .u64 (z1 : Nat), .bool z2] ∧ z1 < 18446744073709551616 := by
  obtain ⟨xs, m, rfl, -, hl, hx, hf⟩ := DataW.trod_struct Try.underlying39 h
  have hl6 : l.length = 3 := hl.trans (by kernel_rfl)
  have hx6 : xs.length = 3 := hx
  match l, hl6, xs, hx6 with
  | [c0, c1, c2], _, [x0, x1, x2], _ =>
    have f0 : DataW.trod enc Try.prog w 0 (fun _ => true) true m 26 (([c0, c1, c2].drop 0).take (Try.prog.cellsOf 26)) = some x0 := hf 0 _ rfl
    rw [show Try.prog.cellsOf 26 = 1 from by kernel_rfl] at f0
    obtain ⟨z0, e0, -, w0⟩ := DataW.trod_int Try.underlying26 (x := x0) f0
    have f1 : DataW.trod enc Try.prog w 0 (fun _ => true) true m 37 (([c0, c1, c2].drop 1).take (Try.prog.cellsOf 37)) = some x1 := hf 1 _ rfl
    rw [show Try.prog.cellsOf 37 = 1 from by kernel_rfl] at f1
    obtain ⟨y1, e1, -, w1⟩ := DataW.trod_int Try.underlying37 (x := x1) f1
    obtain ⟨z1, rfl, b1⟩ := nat_u64 w1
    have f2 : DataW.trod enc Try.prog w 0 (fun _ => true) true m 4 (([c0, c1, c2].drop 2).take (Try.prog.cellsOf 4)) = some x2 := hf 2 _ rfl
    rw [show Try.prog.cellsOf 4 = 1 from by kernel_rfl] at f2
    obtain ⟨z2, e2, -⟩ := DataW.trod_bool Try.underlying4 (x := x2) f2
    simp at e0
    subst e0
    simp at e1
    subst e1
    simp at e2
    subst e2
    exact ⟨z0, z1, z2, rfl, b1⟩
set_option maxRecDepth 100000 in
theorem open_eventL {H : Type} {enc : TypeId × Value → H} {w : World} {l : List Value} {fuel : Nat} {x : DataW H × List MemPlace}
    (h : DataW.trod enc Try.prog w 0 (fun _ => true) true fuel 43 l = some x) :
    ∃ (z0 : Int) (z1 : Int) (z2 : Int) (z3 : Int) (z4 : Int) (z5 : Bool) (z6 : Int) (z7 : Int) (z8 : Nat) (z9 : Nat) (z10 : Nat) (z11 : Int) (z12 : Nat) (z13 : Bool), l = [.int .i64 z0, .int .i64 z1, .int .i64 z2, .int .i64 z3, .int .i64 z4, .bool z5, .int .i64 z6, .int .i64 z7, .int .u64 (z8 : Nat), .int .u64 (z9 : Nat), .int .u64 (z10 : Nat), .int .i64 z11, .int .u64 (z12 : Nat), .bool z13] ∧ (-9223372036854775808 ≤ z4) ∧ z8 < 18446744073709551616 ∧ z9 < 18446744073709551616 ∧ z10 < 18446744073709551616 ∧ z12 < 18446744073709551616 := by
  obtain ⟨xs, m, rfl, -, hl, hx, hf⟩ := DataW.trod_struct Try.underlying43 h
  have hl6 : l.length = 14 := hl.trans (by kernel_rfl)
  have hx6 : xs.length = 8 := hx
  match l, hl6, xs, hx6 with
  | [c0, c1, c2, c3, c4, c5, c6, c7, c8, c9, c10, c11, c12, c13], _, [x0, x1, x2, x3, x4, x5, x6, x7], _ =>
    have f0 : DataW.trod enc Try.prog w 0 (fun _ => true) true m 3 (([c0, c1, c2, c3, c4, c5, c6, c7, c8, c9, c10, c11, c12, c13].drop 0).take (Try.prog.cellsOf 3)) = some x0 := hf 0 _ rfl
    rw [show Try.prog.cellsOf 3 = 1 from by kernel_rfl] at f0
    obtain ⟨z0, e0, -, w0⟩ := DataW.trod_int Try.underlying3 (x := x0) f0
    have f1 : DataW.trod enc Try.prog w 0 (fun _ => true) true m 3 (([c0, c1, c2, c3, c4, c5, c6, c7, c8, c9, c10, c11, c12, c13].drop 1).take (Try.prog.cellsOf 3)) = some x1 := hf 1 _ rfl
    rw [show Try.prog.cellsOf 3 = 1 from by kernel_rfl] at f1
    obtain ⟨z1, e1, -, w1⟩ := DataW.trod_int Try.underlying3 (x := x1) f1
    have f2 : DataW.trod enc Try.prog w 0 (fun _ => true) true m 3 (([c0, c1, c2, c3, c4, c5, c6, c7, c8, c9, c10, c11, c12, c13].drop 2).take (Try.prog.cellsOf 3)) = some x2 := hf 2 _ rfl
    rw [show Try.prog.cellsOf 3 = 1 from by kernel_rfl] at f2
    obtain ⟨z2, e2, -, w2⟩ := DataW.trod_int Try.underlying3 (x := x2) f2
    have f3 : DataW.trod enc Try.prog w 0 (fun _ => true) true m 3 (([c0, c1, c2, c3, c4, c5, c6, c7, c8, c9, c10, c11, c12, c13].drop 3).take (Try.prog.cellsOf 3)) = some x3 := hf 3 _ rfl
    rw [show Try.prog.cellsOf 3 = 1 from by kernel_rfl] at f3
    obtain ⟨z3, e3, -, w3⟩ := DataW.trod_int Try.underlying3 (x := x3) f3
    have f4 : DataW.trod enc Try.prog w 0 (fun _ => true) true m 3 (([c0, c1, c2, c3, c4, c5, c6, c7, c8, c9, c10, c11, c12, c13].drop 4).take (Try.prog.cellsOf 3)) = some x4 := hf 4 _ rfl
    rw [show Try.prog.cellsOf 3 = 1 from by kernel_rfl] at f4
    obtain ⟨z4, e4, -, w4⟩ := DataW.trod_int Try.underlying3 (x := x4) f4
    have f5 : DataW.trod enc Try.prog w 0 (fun _ => true) true m 4 (([c0, c1, c2, c3, c4, c5, c6, c7, c8, c9, c10, c11, c12, c13].drop 5).take (Try.prog.cellsOf 4)) = some x5 := hf 5 _ rfl
    rw [show Try.prog.cellsOf 4 = 1 from by kernel_rfl] at f5
    obtain ⟨z5, e5, -⟩ := DataW.trod_bool Try.underlying4 (x := x5) f5
    have f6 : DataW.trod enc Try.prog w 0 (fun _ => true) true m 41 (([c0, c1, c2, c3, c4, c5, c6, c7, c8, c9, c10, c11, c12, c13].drop 6).take (Try.prog.cellsOf 41)) = some x6 := hf 6 _ rfl
    rw [show Try.prog.cellsOf 41 = 5 from by kernel_rfl] at f6
    obtain ⟨z6, z7, z8, z9, z10, e6, b8, b9, b10⟩ := open_callL f6
    have f7 : DataW.trod enc Try.prog w 0 (fun _ => true) true m 39 (([c0, c1, c2, c3, c4, c5, c6, c7, c8, c9, c10, c11, c12, c13].drop 11).take (Try.prog.cellsOf 39)) = some x7 := hf 7 _ rfl
    rw [show Try.prog.cellsOf 39 = 3 from by kernel_rfl] at f7
    obtain ⟨z11, z12, z13, e7, b12⟩ := open_answerL f7
    simp at e0
    subst e0
    simp at e1
    subst e1
    simp at e2
    subst e2
    simp at e3
    subst e3
    simp at e4
    subst e4
    simp at e5
    subst e5
    simp at e6
    obtain ⟨rfl, rfl, rfl, rfl, rfl⟩ := e6
    simp at e7
    obtain ⟨rfl, rfl, rfl⟩ := e7
    have q4 : -9223372036854775808 ≤ z4 := by
      have q := w4
      simp only [Lit.wf, Bool.and_eq_true, decide_eq_true_eq] at q
      exact q.1
    exact ⟨z0, z1, z2, z3, z4, z5, z6, z7, z8, z9, z10, z11, z12, z13, rfl, q4, b8, b9, b10, b12⟩
theorem cellsEv : Try.prog.cellsOf 43 = 14 := by kernel_rfl
theorem cellsZ : Try.prog.cellsOf 3 = 1 := by kernel_rfl
theorem choose_ev {len : Nat} {p : Nat → Ev → Prop} (h : ∀ i, i < len → ∃ z, p i z) : ∃ E : List Ev, len = E.length ∧ ∀ i e, E[i]? = some e → p i e := by
  obtain ⟨Z, hZ⟩ := Go.Deep.choose_lt h
  refine ⟨(List.range len).map Z, by simp, fun i e hi => ?_⟩
  rw [List.getElem?_map] at hi
  by_cases q : i < len
  · rw [List.getElem?_range q] at hi
    obtain rfl := Option.some.inj hi
    exact hZ i q
  · rw [List.getElem?_eq_none (by simpa using q)] at hi
    cases hi
theorem open_events {H : Type} {enc : TypeId × Value → H} {w : World} {ad : Option Addr} {len cap fuel : Nat} {x : DataW H × List MemPlace}
    (h : DataW.trod enc Try.prog w 0 (fun _ => true) true fuel 24 [.slice ad len cap] = some x) : ∃ E : List Ev, len = E.length ∧ RdEv w ad E ∧ (∀ e ∈ E, -9223372036854775808 ≤ e.en) ∧ ∀ e ∈ E, e.In := by
  rcases open_slice Try.underlying24 h with ⟨hcs, _⟩ | ⟨a, len', cap', m, n, D, Pl, hcs, _, hl, hm, hmm, _, hx⟩
  · simp only [List.cons.injEq, Value.slice.injEq, and_true] at hcs
    obtain ⟨rfl, rfl, rfl⟩ := hcs
    exact ⟨[], rfl, fun i e hi => (by simp at hi), fun e he => (by cases he), fun e he => (by cases he)⟩
  · simp only [List.cons.injEq, Value.slice.injEq, and_true] at hcs
    obtain ⟨rfl, rfl, rfl⟩ := hcs
    simp only [if_true] at hmm
    subst hmm
    have each : ∀ i, i < len → ∃ e : Ev, (∀ k, k < 14 → w.cell? (a.add (i * 14 + k)) = e.row[k]?) ∧ -9223372036854775808 ≤ e.en ∧ e.In := by
      intro i hi
      obtain ⟨cs', h1, h2⟩ := hx i (by omega)
      rw [cellsEv] at h1
      obtain ⟨_, hlen, hcell⟩ := World.cells?_some h1
      obtain ⟨z0, z1, z2, z3, z4, z5, z6, z7, z8, z9, z10, z11, z12, z13, e0, b4, b8, b9, b10, b12⟩ := open_eventL h2
      subst e0
      refine ⟨⟨z0, z1, z2, z3, z4, z5, z6, z7, z8, z9, z10, z11, z12, z13⟩, fun k hk => ?_, b4, b8, b9, b10, b12⟩
      have q := hcell k
      rw [add_add] at q
      match k, hk with
      | 0, _ => exact (q (by decide)).trans rfl
      | 1, _ => exact (q (by decide)).trans rfl
      | 2, _ => exact (q (by decide)).trans rfl
      | 3, _ => exact (q (by decide)).trans rfl
      | 4, _ => exact (q (by decide)).trans rfl
      | 5, _ => exact (q (by decide)).trans rfl
      | 6, _ => exact (q (by decide)).trans rfl
      | 7, _ => exact (q (by decide)).trans rfl
      | 8, _ => exact (q (by decide)).trans rfl
      | 9, _ => exact (q (by decide)).trans rfl
      | 10, _ => exact (q (by decide)).trans rfl
      | 11, _ => exact (q (by decide)).trans rfl
      | 12, _ => exact (q (by decide)).trans rfl
      | 13, _ => exact (q (by decide)).trans rfl
      | k + 14, hk => omega
    obtain ⟨E, hE, hP⟩ := choose_ev each
    refine ⟨E, hE, fun i e hi => ?_, fun e he => ?_, fun e he => ?_⟩
    · have hlt := (List.getElem?_eq_some_iff.1 hi).1
      obtain ⟨q, _⟩ := hP i e hi
      obtain ⟨b, off, spot⟩ := a
      have c0 := q 0 (by decide)
      have hspot : spot = none := by
        obtain ⟨q0, _⟩ := hP 0 _ (List.getElem?_eq_getElem (show 0 < E.length by omega))
        have z0 : w.cell? ((⟨b, off, spot⟩ : Addr).add (0 * 14 + 0)) = some (.int .i64 (E[0]'(by omega)).cl) := q0 0 (by decide)
        simpa [Addr.add] using World.cell?_spot z0
      subst hspot
      refine ⟨b, off, rfl, ?_, fun k hk => ?_⟩
      · rw [add_none] at c0
        exact lt_of_cell (v := .int .i64 e.cl) c0
      · have c := q k hk
        rw [add_none] at c
        rw [← c, Nat.add_assoc]
    · obtain ⟨i, hi, rfl⟩ := List.getElem_of_mem he
      exact (hP i _ (List.getElem?_eq_getElem hi)).2.1
    · obtain ⟨i, hi, rfl⟩ := List.getElem_of_mem he
      exact (hP i _ (List.getElem?_eq_getElem hi)).2.2
theorem open_zs {H : Type} {enc : TypeId × Value → H} {w : World} {ad : Option Addr} {len cap fuel : Nat} {x : DataW H × List MemPlace}
    (h : DataW.trod enc Try.prog w 0 (fun _ => true) true fuel 25 [.slice ad len cap] = some x) : ∃ Z : List Int, len = Z.length ∧ RdZ w ad Z ∧ Sl ad len cap := by
  rcases open_slice Try.underlying25 h with ⟨hcs, _⟩ | ⟨a, len', cap', m, n, D, Pl, hcs, _, hl, hm, hmm, _, hx⟩
  · simp only [List.cons.injEq, Value.slice.injEq, and_true] at hcs
    obtain ⟨rfl, rfl, rfl⟩ := hcs
    exact ⟨[], rfl, fun i e hi => (by simp at hi), .inl ⟨rfl, rfl, rfl⟩⟩
  · simp only [List.cons.injEq, Value.slice.injEq, and_true] at hcs
    obtain ⟨rfl, rfl, rfl⟩ := hcs
    simp only [if_true] at hmm
    subst hmm
    have each : ∀ i, i < len → ∃ z : Int, w.cell? (a.add i) = some (.int .i64 z) := by
      intro i hi
      obtain ⟨cs', h1, h2⟩ := hx i (by omega)
      rw [cellsZ] at h1
      obtain ⟨_, hlen, hcell⟩ := World.cells?_some h1
      match cs', hlen with
      | [v], _ =>
        obtain ⟨z, e, _⟩ := DataW.trod_int Try.underlying3 h2
        simp at e
        subst e
        have := hcell 0 (by decide)
        rw [add_add, Nat.mul_one, Nat.add_zero] at this
        exact ⟨z, this⟩
    obtain ⟨Z, hZ⟩ := Go.Deep.choose_lt each
    refine ⟨(List.range len).map Z, by simp, fun i e hi => ?_, .inr ⟨⟨_, rfl⟩, hl, hm⟩⟩
    rw [List.getElem?_map] at hi
    by_cases q : i < len
    · rw [List.getElem?_range q] at hi
      obtain rfl := Option.some.inj hi
      have c := hZ i q
      obtain ⟨b, off, spot⟩ := a
      have hspot : spot = none := by simpa [Addr.add] using World.cell?_spot (hZ 0 (by omega))
      subst hspot
      rw [add_none] at c
      exact ⟨b, off, rfl, lt_of_cell c, c⟩
    · rw [List.getElem?_eq_none (by simpa using q)] at hi
      cases hi
theorem fronts_row (s a c d g k : Int) (ad : Option Addr) (len cap : Nat) (E : List Ev) (ao : Option Addr) (leno capo : Nat) (Z : List Int) (n : Int) (w : World) (hE : len = E.length) (hR : RdEv w ad E) (hI : ∀ e ∈ E, e.In) (hO : leno = Z.length) (hZ : RdZ w ao Z) (hS : Sl ao leno capo) :
    Calls Try.prog 5 #[.agg #[.int .i64 s, .int .i64 a, .int .i64 c, .int .i64 d, .int .i64 g, .int .i64 k], .slice ad len cap, .slice ao leno capo, .int .i64 n] w fun r w' => r = .returned (.bool true) ∧ Below w.heap.size w w' := fronts_law s a c d g k n cap capo hE hR hI hO hZ hS
theorem points_row (s a c d g k : Int) (ad : Option Addr) (len cap : Nat) (E : List Ev) (w : World) (hE : len = E.length) (hR : RdEv w ad E) (hI : ∀ e ∈ E, e.In) :
    Calls Try.prog 4 #[.agg #[.int .i64 s, .int .i64 a, .int .i64 c, .int .i64 d, .int .i64 g, .int .i64 k], .slice ad len cap] w fun r w' => r = .returned (.bool true) ∧ Below w.heap.size w w' := lpoints_law s a c d g k cap hE hR hI
theorem none_row (s a c d g k : Int) (ad : Option Addr) (len cap : Nat) (E : List Ev) (n x : Int) (hx : 0 ≤ x ∧ x ≤ 255) (w : World) (hE : len = E.length) (hR : RdEv w ad E) (hI : ∀ e ∈ E, e.In) :
    Calls Try.prog 6 #[.agg #[.int .i64 s, .int .i64 a, .int .i64 c, .int .i64 d, .int .i64 g, .int .i64 k], .slice ad len cap, .int .i64 n, .int .u8 x] w fun r w' => r = .returned (.bool true) ∧ Below w.heap.size w w' := none_law s a c d g k n x cap hE hR hI hx
end Go.Proofs.Ytecppcakgfohbab
