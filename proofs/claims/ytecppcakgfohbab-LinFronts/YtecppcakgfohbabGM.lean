/- lin.mayCome. -/
import Derived.Test.YtecppcakgfohbabGL
import Derived.Deep.RegionHeld3
import Derived.Test.YtecppcakgfohbabGW
import Derived.ScopeJumps
import Derived.WalkMore
namespace Go.Proofs.Ytecppcakgfohbab
open Go.RowKit
set_option linter.unusedSimpArgs false
set_option linter.unusedVariables false

def zI (O : List Nat) : List Int := O.map fun (x : Nat) => (x : Int)
theorem zI_len (O : List Nat) : (zI O).length = O.length := by simp [zI]
theorem zI_mem {O : List Nat} {i : Nat} : (i : Int) ∈ zI O ↔ i ∈ O := by
  unfold zI
  rw [List.mem_map]
  constructor
  · rintro ⟨x, hx, e⟩
    have : x = i := by omega
    exact this ▸ hx
  · exact fun h => ⟨i, h, rfl⟩
theorem zI_snoc (O : List Nat) (i : Nat) : zI (O ++ [i]) = zI O ++ [(i : Int)] := by simp [zI]
theorem has_Z {w : World} {vo : Value} {O : List Nat} (hO : IsZ w vo (zI O)) (i : Nat) :
    Calls Try.prog 63 #[vo, .int .i64 (i : Nat)] w fun r w' => r = .returned (.bool (decide (i ∈ O))) ∧ w = w' :=
  (contains_Z hO i).mono fun r w' ⟨h1, h2⟩ => ⟨by rw [h1, show decide ((i : Int) ∈ zI O) = decide (i ∈ O) from decide_eq_decide.2 zI_mem], h2⟩
theorem ev_all {w : World} {B : Nat} {e : Ev} (h : w.heap[B]? = some (.cells #[.int .i64 e.cl, .int .i64 e.op, .int .i64 e.bg, .int .i64 e.pt, .int .i64 e.en, .bool e.bh, .int .i64 e.kd, .int .i64 e.nn, .int .u64 (e.hh : Nat), .int .u64 (e.hx : Nat), .int .u64 (e.hy : Nat), .int .i64 e.er, .int .u64 (e.ah : Nat), .bool e.ay] 43 (0, 0))) : w.cell? ⟨B, 0, none⟩ = some (.int .i64 e.cl) ∧ w.cell? ⟨B, 1, none⟩ = some (.int .i64 e.op) ∧ w.cell? ⟨B, 2, none⟩ = some (.int .i64 e.bg) ∧ w.cell? ⟨B, 3, none⟩ = some (.int .i64 e.pt) ∧ w.cell? ⟨B, 4, none⟩ = some (.int .i64 e.en) ∧ w.cell? ⟨B, 5, none⟩ = some (.bool e.bh) ∧ w.cell? ⟨B, 6, none⟩ = some (.int .i64 e.kd) ∧ w.cell? ⟨B, 7, none⟩ = some (.int .i64 e.nn) ∧ w.cell? ⟨B, 8, none⟩ = some (.int .u64 (e.hh : Nat)) ∧ w.cell? ⟨B, 9, none⟩ = some (.int .u64 (e.hx : Nat)) ∧ w.cell? ⟨B, 10, none⟩ = some (.int .u64 (e.hy : Nat)) ∧ w.cell? ⟨B, 11, none⟩ = some (.int .i64 e.er) ∧ w.cell? ⟨B, 12, none⟩ = some (.int .u64 (e.ah : Nat)) ∧ w.cell? ⟨B, 13, none⟩ = some (.bool e.ay) := by simp [World.cell?, h]
set_option maxRecDepth 100000 in
set_option maxHeartbeats 8000000 in
theorem mayCome_any {w : World} {ad : Option Addr} {lE : Nat} (cap : Nat) {E : List Ev} (hl : lE = E.length) (hE : RdEv w ad E) (hn : lE ≤ 100000) {vo : Value} {O : List Nat} (hO : IsZ w vo (zI O)) {i : Nat} (hi : i < lE) :
    Calls Try.prog 44 #[.slice ad lE cap, vo, .int .i64 (i : Nat)] w fun r w' => r = .returned (.bool (mayB E O i)) ∧ Below w.heap.size w w' := by
  obtain ⟨rb, hrb⟩ : ∃ b, mayB E O i = b := ⟨_, rfl⟩
  rw [hrb]
  have hrb' := hid1 (show rb = true ↔ i ∉ O ∧ ∀ j, j < E.length → j ≠ i → ahB (evD E j) (evD E i) = true → j ∈ O from by rw [← hrb]; exact mayB_iff)
  clear hrb
  obtain ⟨ao, co, hvo, -, -⟩ := hO.form
  obtain ⟨no, hno⟩ : ∃ n, (zI O).length = n := ⟨_, rfl⟩
  rw [hno] at hvo
  subst hvo
  have cH := hid1 fun (k : Nat) (wr : World) (b : Below w.heap.size w wr) => has_Z (hO.below b) k
  replace hl := hid1 hl
  replace hE := hid1 hE
  obtain ⟨f, hf⟩ : ∃ f, E[i]? = some f := ⟨_, List.getElem?_eq_getElem (by have := hl.out; omega)⟩
  obtain ⟨bF, oF, ha, hbF, hcF⟩ := hE.out.at hf
  have hfD := evD_at hf
  subst ha
  clear hO hno
  have c0 := cH.out i w (Below.refl _ _)
  by_cases hio : i ∈ O
  · obtain rfl : rb = false := by
      cases rb with
      | false => rfl
      | true => exact absurd hio (hrb'.out.1 rfl).1
    rw [decide_eq_true hio] at c0
    clear cH hcF
    go_enter Try.func44, Try.ntmps44
    go_wp2_with (go_at_call 63; with_reducible refine c0.mono ?_; rintro r w2 ⟨rfl, rfl⟩)
    go_ret
    exact ⟨rfl, Below.refl _ _⟩
  rw [decide_eq_false hio] at c0
  replace hcF := hid1 hcF
  replace hi := hid1 hi
  replace hf := hid1 hf
  replace hfD := hid1 hfD
  replace hio := hid1 hio
  replace c0 := hid1 c0
  go_enter Try.func44, Try.ntmps44
  go_wp2_with (go_at_call 63; with_reducible refine c0.out.mono ?_; rintro r w2 ⟨rfl, rfl⟩)
  clear c0
  go_loopg [7, 8, 14] lE (fun g1 _ _ vi wr => ∃ (j : Nat), vi = .int .i64 (j : Nat) ∧ j ≤ lE ∧ lE - j ≤ g1 ∧ Hid (Below w.heap.size w wr) ∧ Hid (∀ k, k < j → k ≠ i → ahB (evD E k) (evD E i) = true → k ∈ O))
  case atStart => exact ⟨0, rfl, Nat.zero_le _, by omega, hid1 (Below.refl _ _), hid1 (fun k h => by omega)⟩
  case round =>
    obtain ⟨j, rfl, hj, hg1, bel, I⟩ := hrel
    by_cases hlt : j < lE
    · have hltz : (j : Int) < (lE : Int) := by omega
      obtain ⟨e, he⟩ : ∃ e, E[j]? = some e := ⟨_, List.getElem?_eq_getElem (by have := hl.out; omega)⟩
      obtain ⟨bE, oE, ha, hb, hc⟩ := hE.out.at he
      obtain ⟨rfl, rfl⟩ : bF = bE ∧ oF = oE := by simpa using ha
      clear ha
      obtain ⟨c0, c1, c2, c3, c4, c5, c6, c7, c8, c9, c10, c11, c12, c13⟩ := hc _ bel.out
      have hq := new_obj wr (.cells e.row 43)
      have bA := alloc_below wr (.cells e.row 43)
      have heD := evD_at he
      clear hc hb
      replace he := hid1 he
      replace heD := hid1 heD
      go_upto_region 6 with fail
      clear c0 c1 c2 c3 c4 c5 c6 c7 c8 c9 c10 c11 c12 c13
      unfold Ev.row at hq bA
      generalize World.alloc _ _ = w2 at *
      replace bel := hid1 (seq_below bel.out bA)
      generalize wr.heap.size = bq at hq ⊢
      have hI : (j ≠ i → ahB e f = true → j ∈ O) → Hid (∀ k, k < j + 1 → k ≠ i → ahB (evD E k) (evD E i) = true → k ∈ O) := fun h => hid1 fun k hk hne hah => by
        by_cases q : k = j
        · subst q; rw [heD.out, hfD.out] at hah; exact h hne hah
        · exact I.out k (by omega) hne hah
      replace hI := hid1 hI
      by_cases hji : j = i
      · have g1 : ((j : Int) != (i : Int)) = false := by subst hji; simp
        have hI2 := hI.out fun h => absurd hji h
        clear hq bA hji
        go_quiet (fail)
        go_wp2
        go_roundg (lE - (j + 1))
        case measure => omega
        case rel => exact ⟨j + 1, by go_num, by omega, Nat.le_refl _, hid1 (bel.out.trans ⟨rfl, rfl, rfl, Nat.le_refl _, fun _ _ => rfl⟩), hI2⟩
      · have g1 : ((j : Int) != (i : Int)) = true := by
          simp only [bne_iff_ne, ne_eq]; omega
        have cA := fun w0 => ahead_any e f w0
        unfold Ev.row at cA
        replace cA := hid1 cA
        have hiz : (i : Int) < (lE : Int) := by have := hi.out; omega
        have hi0 : (0 : Int) ≤ (i : Int) := by omega
        replace hji := hid1 hji
        refine wp_region_held_drew (S := fun wq => wq.heap[bq]? = some (.cells #[.int .i64 e.cl, .int .i64 e.op, .int .i64 e.bg, .int .i64 e.pt, .int .i64 e.en, .bool e.bh, .int .i64 e.kd, .int .i64 e.nn, .int .u64 (e.hh : Nat), .int .u64 (e.hx : Nat), .int .u64 (e.hy : Nat), .int .i64 e.er, .int .u64 (e.ah : Nat), .bool e.ay] 43 (0, 0)) ∧ Below w.heap.size w wq) (by kernel_rfl) ⟨hq, bel.out.drew⟩ (fun hS1 => ?_)
        clear hq bel
        generalize World.drew _ = w4 at *
        refine wpAnyH_take (i := 0) (oi := { dst := some 19, op := Go.Op.move (Go.Operand.tmp 7), type := 3, pos := "search.go:70", after := #[], guard := none }) (v := .int .i64 (j : Nat)) rfl (by kernel_rfl) (by kernel_rfl) (by kernel_rfl) (fun _ _ _ h => h) (Or.inl ⟨by rfl, fun w hSw => by (try dsimp only at hSw); go_simp⟩) hS1 ?_
        simp only [Act.put, List.setIfInBounds_toArray, List.set_cons_zero, List.set_cons_succ]
        refine wpAnyH_take (i := 1) (oi := { dst := some 20, op := Go.Op.move (Go.Operand.tmp 2), type := 3, pos := "search.go:70", after := #[], guard := none }) (v := .int .i64 (i : Nat)) rfl (by kernel_rfl) (by kernel_rfl) (by kernel_rfl) (fun _ _ _ h => h) (Or.inl ⟨by rfl, fun w hSw => by (try dsimp only at hSw); go_simp⟩) hS1 ?_
        simp only [Act.put, List.setIfInBounds_toArray, List.set_cons_zero, List.set_cons_succ]
        refine wpAnyH_take (i := 2) (oi := { dst := some 21, op := Go.Op.binOp Go.BinOp.neq 3 (Go.Operand.tmp 19) (Go.Operand.tmp 20) 3, type := 4, pos := "search.go:70", after := #[{ on := 0, ground := Go.Ground.data }, { on := 1, ground := Go.Ground.data }], guard := none }) (v := .bool true) rfl (by kernel_rfl) (by kernel_rfl) (by kernel_rfl) (fun _ _ _ h => h) (Or.inl ⟨by rfl, fun w hSw => by (try dsimp only at hSw); go_simp⟩) hS1 ?_
        simp only [Act.put, List.setIfInBounds_toArray, List.set_cons_zero, List.set_cons_succ]
        refine wpAnyH_take (i := 3) (oi := { dst := some 22, op := Go.Op.move (Go.Operand.tmp 21), type := 4, pos := "search.go:70", after := #[{ on := 2, ground := Go.Ground.data }], guard := none }) (v := .bool true) rfl (by kernel_rfl) (by kernel_rfl) (by kernel_rfl) (fun _ _ _ h => h) (Or.inl ⟨by rfl, fun w hSw => by (try dsimp only at hSw); go_simp⟩) hS1 ?_
        simp only [Act.put, List.setIfInBounds_toArray, List.set_cons_zero, List.set_cons_succ]
        refine wpAnyH_take (i := 4) (oi := { dst := some 23, op := Go.Op.load 43 (Go.Operand.tmp 8), type := 43, pos := "search.go:70", after := #[{ on := 3, ground := Go.Ground.guard }], guard := some (3, true) }) (v := .agg #[.int .i64 e.cl, .int .i64 e.op, .int .i64 e.bg, .int .i64 e.pt, .int .i64 e.en, .bool e.bh, .int .i64 e.kd, .int .i64 e.nn, .int .u64 (e.hh : Nat), .int .u64 (e.hx : Nat), .int .u64 (e.hy : Nat), .int .i64 e.er, .int .u64 (e.ah : Nat), .bool e.ay]) rfl (by kernel_rfl) (by kernel_rfl) (by kernel_rfl) (fun _ _ _ h => h) (Or.inl ⟨by rfl, fun w hSw => by (try dsimp only at hSw); obtain ⟨x0, x1, x2, x3, x4, x5, x6, x7, x8, x9, x10, x11, x12, x13⟩ := ev_all hSw.1; go_simp⟩) hS1 ?_
        simp only [Act.put, List.setIfInBounds_toArray, List.set_cons_zero, List.set_cons_succ]
        refine wpAnyH_take (i := 5) (oi := { dst := some 24, op := Go.Op.move (Go.Operand.tmp 0), type := 24, pos := "search.go:70", after := #[{ on := 3, ground := Go.Ground.guard }], guard := some (3, true) }) (v := .slice (some ⟨bF, oF, none⟩) lE cap) rfl (by kernel_rfl) (by kernel_rfl) (by kernel_rfl) (fun _ _ _ h => h) (Or.inl ⟨by rfl, fun w hSw => by (try dsimp only at hSw); go_simp⟩) hS1 ?_
        simp only [Act.put, List.setIfInBounds_toArray, List.set_cons_zero, List.set_cons_succ]
        refine wpAnyH_take (i := 6) (oi := { dst := some 25, op := Go.Op.move (Go.Operand.tmp 2), type := 3, pos := "search.go:70", after := #[{ on := 3, ground := Go.Ground.guard }], guard := some (3, true) }) (v := .int .i64 (i : Nat)) rfl (by kernel_rfl) (by kernel_rfl) (by kernel_rfl) (fun _ _ _ h => h) (Or.inl ⟨by rfl, fun w hSw => by (try dsimp only at hSw); go_simp⟩) hS1 ?_
        simp only [Act.put, List.setIfInBounds_toArray, List.set_cons_zero, List.set_cons_succ]
        refine wpAnyH_take (i := 7) (oi := { dst := some 26, op := Go.Op.indexAddr 24 (Go.Operand.tmp 24) (Go.Operand.tmp 25), type := 0, pos := "search.go:70", after := #[{ on := 5, ground := Go.Ground.data }, { on := 6, ground := Go.Ground.data }, { on := 3, ground := Go.Ground.guard }], guard := some (3, true) }) (v := .pointer (some ⟨bF, oF + i * 14, none⟩)) rfl (by kernel_rfl) (by kernel_rfl) (by kernel_rfl) (fun _ _ _ h => h) (Or.inl ⟨by rfl, fun w hSw => by (try dsimp only at hSw); go_simp⟩) hS1 ?_
        simp only [Act.put, List.setIfInBounds_toArray, List.set_cons_zero, List.set_cons_succ]
        refine wpAnyH_take (i := 8) (oi := { dst := some 27, op := Go.Op.load 43 (Go.Operand.tmp 26), type := 43, pos := "search.go:70", after := #[{ on := 7, ground := Go.Ground.data }, { on := 3, ground := Go.Ground.guard }], guard := some (3, true) }) (v := .agg #[.int .i64 f.cl, .int .i64 f.op, .int .i64 f.bg, .int .i64 f.pt, .int .i64 f.en, .bool f.bh, .int .i64 f.kd, .int .i64 f.nn, .int .u64 (f.hh : Nat), .int .u64 (f.hx : Nat), .int .u64 (f.hy : Nat), .int .i64 f.er, .int .u64 (f.ah : Nat), .bool f.ay]) rfl (by kernel_rfl) (by kernel_rfl) (by kernel_rfl) (fun _ _ _ h => h) (Or.inl ⟨by rfl, fun w hSw => by (try dsimp only at hSw); obtain ⟨c0, c1, c2, c3, c4, c5, c6, c7, c8, c9, c10, c11, c12, c13⟩ := hcF.out _ hSw.2; go_simp⟩) hS1 ?_
        simp only [Act.put, List.setIfInBounds_toArray, List.set_cons_zero, List.set_cons_succ]
        refine wpAnyH_ready (rs := [9]) (by kernel_rfl) (by simp) (AllReadyH.cons (o := { dst := some 28, op := Go.Op.call { callee := Go.Callee.value (Go.Operand.func 36), args := #[Go.Operand.tmp 23, Go.Operand.tmp 27], argTypes := #[43, 43] }, type := 4, pos := "search.go:70", after := #[{ on := 4, ground := Go.Ground.data }, { on := 8, ground := Go.Ground.data }, { on := 3, ground := Go.Ground.chain }, { on := 3, ground := Go.Ground.guard }], guard := some (3, true) }) rfl (fun K hK => ?_) AllReadyH.nil)
        go_simp
        go_at_call 36
        with_reducible refine (cA.out _).mono ?_
        rintro r w5 ⟨rfl, b5⟩
        (try simp only [])
        have hq5 := (b5.block _ (lt_of_block hS1.1)).trans hS1.1
        have bel5 := seq_below hS1.2 b5
        refine hK.out _ _ ⟨hq5, bel5⟩ (fun hS1 => ?_)
        (try simp only [Act.put, List.setIfInBounds_toArray, List.set_cons_zero, List.set_cons_succ])
        clear hK K b5 hq5
        replace bel5 := hid1 bel5
        cases hab : ahB e f with
        | false =>
          have hI2 := hI.out fun _ h => absurd h (by rw [hab]; decide)
          clear hab cH
          refine wpAnyH_take (i := 10) (oi := { dst := some 29, op := Go.Op.pick (Go.Operand.tmp 22) (Go.Operand.tmp 28) (Go.Operand.const (Go.Value.bool false)), type := 4, pos := "search.go:70", after := #[{ on := 3, ground := Go.Ground.data }, { on := 9, ground := Go.Ground.data }], guard := none }) (v := .bool false) rfl (by kernel_rfl) (by kernel_rfl) (by kernel_rfl) (fun _ _ _ h => h) (Or.inl ⟨by rfl, fun w hSw => by (try dsimp only at hSw); go_simp⟩) hS1 ?_
          simp only [Act.put, List.setIfInBounds_toArray, List.set_cons_zero, List.set_cons_succ]
          refine wpAnyH_take (i := 11) (oi := { dst := some 30, op := Go.Op.move (Go.Operand.tmp 29), type := 4, pos := "search.go:70", after := #[{ on := 10, ground := Go.Ground.data }, { on := 9, ground := Go.Ground.chain }], guard := none }) (v := .bool false) rfl (by kernel_rfl) (by kernel_rfl) (by kernel_rfl) (fun _ _ _ h => h) (Or.inl ⟨by rfl, fun w hSw => by (try dsimp only at hSw); go_simp⟩) hS1 ?_
          simp only [Act.put, List.setIfInBounds_toArray, List.set_cons_zero, List.set_cons_succ]
          refine wpAnyH_take (i := 12) (oi := { dst := some 31, op := Go.Op.move (Go.Operand.tmp 1), type := 25, pos := "search.go:70", after := #[{ on := 11, ground := Go.Ground.guard }], guard := some (11, true) }) (v := undef) rfl (by kernel_rfl) (by kernel_rfl) (by kernel_rfl) (fun _ _ _ h => h) (Or.inr ⟨by rfl, rfl⟩) hS1 ?_
          simp only [Act.put, List.setIfInBounds_toArray, List.set_cons_zero, List.set_cons_succ]
          refine wpAnyH_take (i := 13) (oi := { dst := some 32, op := Go.Op.move (Go.Operand.tmp 7), type := 3, pos := "search.go:70", after := #[{ on := 11, ground := Go.Ground.guard }], guard := some (11, true) }) (v := undef) rfl (by kernel_rfl) (by kernel_rfl) (by kernel_rfl) (fun _ _ _ h => h) (Or.inr ⟨by rfl, rfl⟩) hS1 ?_
          simp only [Act.put, List.setIfInBounds_toArray, List.set_cons_zero, List.set_cons_succ]
          refine wpAnyH_take (i := 14) (oi := { dst := some 33, op := Go.Op.call { callee := Go.Callee.value (Go.Operand.func 63), args := #[Go.Operand.tmp 31, Go.Operand.tmp 32], argTypes := #[25, 3] }, type := 4, pos := "search.go:70", after := #[{ on := 12, ground := Go.Ground.data }, { on := 13, ground := Go.Ground.data }, { on := 11, ground := Go.Ground.chain }, { on := 11, ground := Go.Ground.guard }], guard := some (11, true) }) (v := undef) rfl (by kernel_rfl) (by kernel_rfl) (by kernel_rfl) (fun _ _ _ h => h) (Or.inr ⟨by rfl, rfl⟩) hS1 ?_
          simp only [Act.put, List.setIfInBounds_toArray, List.set_cons_zero, List.set_cons_succ]
          refine wpAnyH_take (i := 15) (oi := { dst := some 34, op := Go.Op.unOp Go.UnOp.not 4 (Go.Operand.tmp 33), type := 4, pos := "search.go:70", after := #[{ on := 14, ground := Go.Ground.data }, { on := 11, ground := Go.Ground.guard }], guard := some (11, true) }) (v := undef) rfl (by kernel_rfl) (by kernel_rfl) (by kernel_rfl) (fun _ _ _ h => h) (Or.inr ⟨by rfl, rfl⟩) hS1 ?_
          simp only [Act.put, List.setIfInBounds_toArray, List.set_cons_zero, List.set_cons_succ]
          refine wpAnyH_take (i := 16) (oi := { dst := some 35, op := Go.Op.pick (Go.Operand.tmp 30) (Go.Operand.tmp 34) (Go.Operand.const (Go.Value.bool false)), type := 4, pos := "search.go:70", after := #[{ on := 11, ground := Go.Ground.data }, { on := 15, ground := Go.Ground.data }], guard := none }) (v := .bool false) rfl (by kernel_rfl) (by kernel_rfl) (by kernel_rfl) (fun _ _ _ h => h) (Or.inl ⟨by rfl, fun w hSw => by (try dsimp only at hSw); go_simp⟩) hS1 ?_
          simp only [Act.put, List.setIfInBounds_toArray, List.set_cons_zero, List.set_cons_succ]
          refine wpAnyH_done (by kernel_rfl) ?_ _
          clear hS1
          go_wp2
          go_roundg (lE - (j + 1))
          case measure => omega
          case rel => exact ⟨j + 1, by go_num, by omega, Nat.le_refl _, bel5, hI2⟩
        | true =>
          have cH2 := cH.out j _ bel5.out
          cases hjO : decide (j ∈ O) with
          | true =>
            have hI2 := hI.out fun _ _ => of_decide_eq_true hjO
            rw [hjO] at cH2
            clear hab cH hjO
            replace cH2 := hid1 cH2
            refine wpAnyH_take (i := 10) (oi := { dst := some 29, op := Go.Op.pick (Go.Operand.tmp 22) (Go.Operand.tmp 28) (Go.Operand.const (Go.Value.bool false)), type := 4, pos := "search.go:70", after := #[{ on := 3, ground := Go.Ground.data }, { on := 9, ground := Go.Ground.data }], guard := none }) (v := .bool true) rfl (by kernel_rfl) (by kernel_rfl) (by kernel_rfl) (fun _ _ _ h => h) (Or.inl ⟨by rfl, fun w hSw => by (try dsimp only at hSw); go_simp⟩) hS1 ?_
            simp only [Act.put, List.setIfInBounds_toArray, List.set_cons_zero, List.set_cons_succ]
            refine wpAnyH_take (i := 11) (oi := { dst := some 30, op := Go.Op.move (Go.Operand.tmp 29), type := 4, pos := "search.go:70", after := #[{ on := 10, ground := Go.Ground.data }, { on := 9, ground := Go.Ground.chain }], guard := none }) (v := .bool true) rfl (by kernel_rfl) (by kernel_rfl) (by kernel_rfl) (fun _ _ _ h => h) (Or.inl ⟨by rfl, fun w hSw => by (try dsimp only at hSw); go_simp⟩) hS1 ?_
            simp only [Act.put, List.setIfInBounds_toArray, List.set_cons_zero, List.set_cons_succ]
            refine wpAnyH_take (i := 12) (oi := { dst := some 31, op := Go.Op.move (Go.Operand.tmp 1), type := 25, pos := "search.go:70", after := #[{ on := 11, ground := Go.Ground.guard }], guard := some (11, true) }) (v := .slice ao no co) rfl (by kernel_rfl) (by kernel_rfl) (by kernel_rfl) (fun _ _ _ h => h) (Or.inl ⟨by rfl, fun w hSw => by (try dsimp only at hSw); go_simp⟩) hS1 ?_
            simp only [Act.put, List.setIfInBounds_toArray, List.set_cons_zero, List.set_cons_succ]
            refine wpAnyH_take (i := 13) (oi := { dst := some 32, op := Go.Op.move (Go.Operand.tmp 7), type := 3, pos := "search.go:70", after := #[{ on := 11, ground := Go.Ground.guard }], guard := some (11, true) }) (v := .int .i64 (j : Nat)) rfl (by kernel_rfl) (by kernel_rfl) (by kernel_rfl) (fun _ _ _ h => h) (Or.inl ⟨by rfl, fun w hSw => by (try dsimp only at hSw); go_simp⟩) hS1 ?_
            simp only [Act.put, List.setIfInBounds_toArray, List.set_cons_zero, List.set_cons_succ]
            refine wpAnyH_ready (rs := [14]) (by kernel_rfl) (by simp) (AllReadyH.cons (o := { dst := some 33, op := Go.Op.call { callee := Go.Callee.value (Go.Operand.func 63), args := #[Go.Operand.tmp 31, Go.Operand.tmp 32], argTypes := #[25, 3] }, type := 4, pos := "search.go:70", after := #[{ on := 12, ground := Go.Ground.data }, { on := 13, ground := Go.Ground.data }, { on := 11, ground := Go.Ground.chain }, { on := 11, ground := Go.Ground.guard }], guard := some (11, true) }) rfl (fun K hK => ?_) AllReadyH.nil)
            go_simp
            go_at_call 63
            with_reducible refine cH2.out.mono ?_
            rintro r w6 ⟨rfl, rfl⟩
            (try simp only [])
            refine hK.out _ _ hS1 (fun hS1 => ?_)
            (try simp only [Act.put, List.setIfInBounds_toArray, List.set_cons_zero, List.set_cons_succ])
            clear hK K cH2
            refine wpAnyH_take (i := 15) (oi := { dst := some 34, op := Go.Op.unOp Go.UnOp.not 4 (Go.Operand.tmp 33), type := 4, pos := "search.go:70", after := #[{ on := 14, ground := Go.Ground.data }, { on := 11, ground := Go.Ground.guard }], guard := some (11, true) }) (v := .bool false) rfl (by kernel_rfl) (by kernel_rfl) (by kernel_rfl) (fun _ _ _ h => h) (Or.inl ⟨by rfl, fun w hSw => by (try dsimp only at hSw); go_simp⟩) hS1 ?_
            simp only [Act.put, List.setIfInBounds_toArray, List.set_cons_zero, List.set_cons_succ]
            refine wpAnyH_take (i := 16) (oi := { dst := some 35, op := Go.Op.pick (Go.Operand.tmp 30) (Go.Operand.tmp 34) (Go.Operand.const (Go.Value.bool false)), type := 4, pos := "search.go:70", after := #[{ on := 11, ground := Go.Ground.data }, { on := 15, ground := Go.Ground.data }], guard := none }) (v := .bool false) rfl (by kernel_rfl) (by kernel_rfl) (by kernel_rfl) (fun _ _ _ h => h) (Or.inl ⟨by rfl, fun w hSw => by (try dsimp only at hSw); go_simp⟩) hS1 ?_
            simp only [Act.put, List.setIfInBounds_toArray, List.set_cons_zero, List.set_cons_succ]
            refine wpAnyH_done (by kernel_rfl) ?_ _
            clear hS1
            go_wp2
            go_roundg (lE - (j + 1))
            case measure => omega
            case rel => exact ⟨j + 1, by go_num, by omega, Nat.le_refl _, bel5, hI2⟩
          | false =>
            obtain rfl : rb = false := by
              cases rb with
              | false => rfl
              | true => exact absurd ((hrb'.out.1 rfl).2 j (by have := hl.out; omega) hji.out (by rw [heD.out, hfD.out]; exact hab)) (of_decide_eq_false hjO)
            rw [hjO] at cH2
            clear hab cH hjO hI
            replace cH2 := hid1 cH2
            refine wpAnyH_take (i := 10) (oi := { dst := some 29, op := Go.Op.pick (Go.Operand.tmp 22) (Go.Operand.tmp 28) (Go.Operand.const (Go.Value.bool false)), type := 4, pos := "search.go:70", after := #[{ on := 3, ground := Go.Ground.data }, { on := 9, ground := Go.Ground.data }], guard := none }) (v := .bool true) rfl (by kernel_rfl) (by kernel_rfl) (by kernel_rfl) (fun _ _ _ h => h) (Or.inl ⟨by rfl, fun w hSw => by (try dsimp only at hSw); go_simp⟩) hS1 ?_
            simp only [Act.put, List.setIfInBounds_toArray, List.set_cons_zero, List.set_cons_succ]
            refine wpAnyH_take (i := 11) (oi := { dst := some 30, op := Go.Op.move (Go.Operand.tmp 29), type := 4, pos := "search.go:70", after := #[{ on := 10, ground := Go.Ground.data }, { on := 9, ground := Go.Ground.chain }], guard := none }) (v := .bool true) rfl (by kernel_rfl) (by kernel_rfl) (by kernel_rfl) (fun _ _ _ h => h) (Or.inl ⟨by rfl, fun w hSw => by (try dsimp only at hSw); go_simp⟩) hS1 ?_
            simp only [Act.put, List.setIfInBounds_toArray, List.set_cons_zero, List.set_cons_succ]
            refine wpAnyH_take (i := 12) (oi := { dst := some 31, op := Go.Op.move (Go.Operand.tmp 1), type := 25, pos := "search.go:70", after := #[{ on := 11, ground := Go.Ground.guard }], guard := some (11, true) }) (v := .slice ao no co) rfl (by kernel_rfl) (by kernel_rfl) (by kernel_rfl) (fun _ _ _ h => h) (Or.inl ⟨by rfl, fun w hSw => by (try dsimp only at hSw); go_simp⟩) hS1 ?_
            simp only [Act.put, List.setIfInBounds_toArray, List.set_cons_zero, List.set_cons_succ]
            refine wpAnyH_take (i := 13) (oi := { dst := some 32, op := Go.Op.move (Go.Operand.tmp 7), type := 3, pos := "search.go:70", after := #[{ on := 11, ground := Go.Ground.guard }], guard := some (11, true) }) (v := .int .i64 (j : Nat)) rfl (by kernel_rfl) (by kernel_rfl) (by kernel_rfl) (fun _ _ _ h => h) (Or.inl ⟨by rfl, fun w hSw => by (try dsimp only at hSw); go_simp⟩) hS1 ?_
            simp only [Act.put, List.setIfInBounds_toArray, List.set_cons_zero, List.set_cons_succ]
            refine wpAnyH_ready (rs := [14]) (by kernel_rfl) (by simp) (AllReadyH.cons (o := { dst := some 33, op := Go.Op.call { callee := Go.Callee.value (Go.Operand.func 63), args := #[Go.Operand.tmp 31, Go.Operand.tmp 32], argTypes := #[25, 3] }, type := 4, pos := "search.go:70", after := #[{ on := 12, ground := Go.Ground.data }, { on := 13, ground := Go.Ground.data }, { on := 11, ground := Go.Ground.chain }, { on := 11, ground := Go.Ground.guard }], guard := some (11, true) }) rfl (fun K hK => ?_) AllReadyH.nil)
            go_simp
            go_at_call 63
            with_reducible refine cH2.out.mono ?_
            rintro r w6 ⟨rfl, rfl⟩
            (try simp only [])
            refine hK.out _ _ hS1 (fun hS1 => ?_)
            (try simp only [Act.put, List.setIfInBounds_toArray, List.set_cons_zero, List.set_cons_succ])
            clear hK K cH2
            refine wpAnyH_take (i := 15) (oi := { dst := some 34, op := Go.Op.unOp Go.UnOp.not 4 (Go.Operand.tmp 33), type := 4, pos := "search.go:70", after := #[{ on := 14, ground := Go.Ground.data }, { on := 11, ground := Go.Ground.guard }], guard := some (11, true) }) (v := .bool true) rfl (by kernel_rfl) (by kernel_rfl) (by kernel_rfl) (fun _ _ _ h => h) (Or.inl ⟨by rfl, fun w hSw => by (try dsimp only at hSw); go_simp⟩) hS1 ?_
            simp only [Act.put, List.setIfInBounds_toArray, List.set_cons_zero, List.set_cons_succ]
            refine wpAnyH_take (i := 16) (oi := { dst := some 35, op := Go.Op.pick (Go.Operand.tmp 30) (Go.Operand.tmp 34) (Go.Operand.const (Go.Value.bool false)), type := 4, pos := "search.go:70", after := #[{ on := 11, ground := Go.Ground.data }, { on := 15, ground := Go.Ground.data }], guard := none }) (v := .bool true) rfl (by kernel_rfl) (by kernel_rfl) (by kernel_rfl) (fun _ _ _ h => h) (Or.inl ⟨by rfl, fun w hSw => by (try dsimp only at hSw); go_simp⟩) hS1 ?_
            simp only [Act.put, List.setIfInBounds_toArray, List.set_cons_zero, List.set_cons_succ]
            refine wpAnyH_done (by kernel_rfl) ?_ _
            clear hS1
            go_wp2
            go_ret
            exact ⟨rfl, bel5.out⟩
    · obtain rfl : j = lE := by omega
      have hltz : ¬ (j : Int) < (j : Int) := by omega
      obtain rfl : rb = true := hrb'.out.2 ⟨hio.out, fun k hk => I.out k (by have := hl.out; omega)⟩
      go_wp2
      go_ret
      exact ⟨rfl, bel.out⟩
end Go.Proofs.Ytecppcakgfohbab
/- lin.next. -/
namespace Go.Proofs.Ytecppcakgfohbab
open Go.RowKit
set_option linter.unusedSimpArgs false
set_option linter.unusedVariables false

theorem mayCome_at {w0 : World} {ad : Option Addr} {lE : Nat} (cap : Nat) {E : List Ev} (hl : lE = E.length) (hE : RdEv w0 ad E) (hn : lE ≤ 100000) {vo : Value} {O : List Nat} (hO : IsZ w0 vo (zI O)) {i : Nat} (hi : i < lE) {w : World} (b : Below w0.heap.size w0 w) :
    Calls Try.prog 44 #[.slice ad lE cap, vo, .int .i64 (i : Nat)] w fun r w' => r = .returned (.bool (mayB E O i)) ∧ Below w.heap.size w w' := mayCome_any cap hl (hE.below b) hn (hO.below b) hi
theorem IsM.lb {b : Nat} {w w' : World} {B : Nat} {C : Cg} {n : Nat} {X : Sx} (h : IsM w B (Lb b w) C n X) (k : Below w.heap.size w w') : IsM w' B (Lb b w') C n X :=
  (h.below k).up fun j hj => And.intro hj.1 (Nat.lt_of_lt_of_le hj.2 k.size)
theorem IsM.more {w : World} {B : Nat} {L : Nat → Prop} {C : Cg} {n n' : Nat} {X : Sx} (h : IsM w B L C n X) (k : n ≤ n') : IsM w B L C n' X := by
  obtain ⟨m, h⟩ := h
  exact ⟨m, h.more k⟩
set_option maxRecDepth 100000 in
set_option maxHeartbeats 4000000 in
theorem next_any {w0 w : World} {B : Nat} {C : Cg} {n N : Nat} {X : Sx} (h : IsM w B (Lb w0.heap.size w) C n X) (b0 : Below w0.heap.size w0 w) (iv : X.Inv N) (hN : N ≤ 1000) (hn : n ≤ 1000) (hCa : C.a ≤ 8) {ad : Option Addr} {lE : Nat} (cap : Nat) {E : List Ev} (hl : lE = E.length) (hE : RdEv w0 ad E) (hI : ∀ e ∈ E, e.In) (hl7 : lE ≤ 7) {vo : Value} {O : List Nat} (hO : IsZ w0 vo (zI O)) {f : Nat} (hf : f ≤ lE) :
    Calls Try.prog 27 #[.pointer (some ⟨B, 0, none⟩), .slice ad lE cap, vo, .int .i64 (f : Nat)] w fun r w' => ∃ i : Nat, r = .returned (.int .i64 (i : Nat)) ∧ f ≤ i ∧ i ≤ lE ∧ NoX C E O X f i ∧ Below w0.heap.size w0 w' ∧ (i < lE → mayB E O i = true ∧ ∃ X', evS C X (evD E i) = some X' ∧ IsM w' B (Lb w0.heap.size w') C (n + 16) X' ∧ X'.Inv (N + 1)) := by
  obtain ⟨ao, co, hvo, -, -⟩ := hO.form
  obtain ⟨no, hno⟩ : ∃ n, (zI O).length = n := ⟨_, rfl⟩
  rw [hno] at hvo
  subst hvo
  have cM := hid1 fun (i : Nat) (hi : i < lE) (wr : World) (b : Below w0.heap.size w0 wr) => mayCome_at cap hl hE (by omega) hO hi b
  replace hl := hid1 hl
  replace hE := hid1 hE
  replace hI := hid1 hI
  replace iv := hid1 iv
  replace hN := hid1 hN
  replace hn := hid1 hn
  replace hCa := hid1 hCa
  have h0 := hid1 (And.intro (show IsM w B (Lb w0.heap.size w) C (n + 2 * (f - f)) X from by rw [Nat.sub_self]; exact h) b0)
  clear hO hno h b0
  go_enter Try.func27, Try.ntmps27
  go_wp2
  go_loopg [9] lE (fun g1 vi wr => ∃ (i : Nat), vi = .int .i64 (i : Nat) ∧ f ≤ i ∧ i ≤ lE ∧ lE - i ≤ g1 ∧ Hid (IsM wr B (Lb w0.heap.size wr) C (n + 2 * (i - f)) X ∧ Below w0.heap.size w0 wr) ∧ Hid (NoX C E O X f i))
  case atStart => exact ⟨f, rfl, Nat.le_refl _, hf, by omega, h0, hid1 (fun x h1 h2 => by omega)⟩
  case round =>
    clear h0
    obtain ⟨i, rfl, hfi, hi, hg1, M, I⟩ := hrel
    by_cases hlt : i < lE
    · have hltz : (i : Int) < (lE : Int) := by omega
      have hi0 : (0 : Int) ≤ (i : Int) := by omega
      have cm := cM.out i hlt wr M.out.2
      have next : ¬ (mayB E O i = true ∧ (evS C X (evD E i)).isSome = true) → NoX C E O X f (i + 1) := fun h x h1 h2 => by
        by_cases q : x = i
        · subst q; exact h
        · exact I.out x h1 (by omega)
      replace next := hid1 next
      cases hm : mayB E O i with
      | false =>
        rw [hm] at cm
        have hI2 := hid1 (next.out fun q => by rw [hm] at q; cases q.1)
        clear hm next cM
        replace cm := hid1 cm
        go_wp2_with (go_at_call 44; with_reducible refine cm.out.mono ?_; rintro r w2 ⟨rfl, b2⟩)
        have M2 := hid1 (And.intro ((show IsM w2 B (Lb w0.heap.size w2) C (n + 2 * (i + 1 - f)) X from (M.out.1.lb b2).more (by omega))) (seq_below M.out.2 b2))
        clear M b2 cm
        go_wp2
        go_roundg (lE - (i + 1))
        case measure => omega
        case rel => exact ⟨i + 1, by go_num, by omega, by omega, Nat.le_refl _, M2, hI2⟩
      | true =>
        rw [hm] at cm
        obtain ⟨e, he⟩ : ∃ e, E[i]? = some e := ⟨_, List.getElem?_eq_getElem (by have := hl.out; omega)⟩
        have heD := evD_at he
        obtain ⟨be, oe, had, hbe, hce⟩ := hE.out.at he
        subst had
        have hIe := hI.out e (List.mem_of_getElem? he)
        have ct := fun (wq : World) (m : IsM wq B (Lb w0.heap.size wq) C (n + 2 * (i - f)) X) (bq : Below w0.heap.size w0 wq) => takes_Lb m bq (Nat.le_refl _) iv.out (by have := hN.out; omega) (by have := hn.out; omega) hCa.out e hIe
        have hiv := evS_inv iv.out M.out.1.nc hCa.out hIe
        unfold Ev.row at ct
        have hm2 := hid1 hm
        clear hm cM hbe hIe
        replace cm := hid1 cm
        replace he := hid1 he
        replace hce := hid1 hce
        cases ho : evS C X e with
        | none =>
          rw [ho] at ct
          have hI2 := hid1 (next.out fun q => by rw [heD, ho] at q; cases q.2)
          replace ct := hid1 ct
          clear ho hiv heD next
          go_wp2_with (first
          | (go_at_call 44; with_reducible refine cm.out.mono ?_; rintro r w2 ⟨rfl, b2⟩; have m2 := M.out.1.lb b2; have B2 := seq_below M.out.2 b2; obtain ⟨c0, c1, c2, c3, c4, c5, c6, c7, c8, c9, c10, c11, c12, c13⟩ := hce.out _ B2; replace m2 := hid1 m2; replace B2 := hid1 B2; clear cm b2 M)
          | (go_at_call 24; with_reducible refine (ct.out _ m2.out B2.out).mono ?_; rintro r w5 ⟨rfl, m5, b5⟩))
          have M2 := hid1 (And.intro ((show IsM w5 B (Lb w0.heap.size w5) C (n + 2 * (i + 1 - f)) X from m5.more (by omega))) b5)
          clear m5 b5 ct m2 B2 c0 c1 c2 c3 c4 c5 c6 c7 c8 c9 c10 c11 c12 c13
          go_wp2
          go_roundg (lE - (i + 1))
          case measure => omega
          case rel => exact ⟨i + 1, by go_num, by omega, by omega, Nat.le_refl _, M2, hI2⟩
        | some X' =>
          rw [ho] at ct hiv
          replace ct := hid1 ct
          have fin := hid1 (And.intro (show evS C X (evD E i) = some X' from by rw [heD, ho]) (show X'.Inv (N + 1) from hiv))
          clear ho hiv heD next
          go_wp2_with (first
          | (go_at_call 44; with_reducible refine cm.out.mono ?_; rintro r w2 ⟨rfl, b2⟩; have m2 := M.out.1.lb b2; have B2 := seq_below M.out.2 b2; obtain ⟨c0, c1, c2, c3, c4, c5, c6, c7, c8, c9, c10, c11, c12, c13⟩ := hce.out _ B2; replace m2 := hid1 m2; replace B2 := hid1 B2; clear cm b2 M)
          | (go_at_call 24; with_reducible refine (ct.out _ m2.out B2.out).mono ?_; rintro r w5 ⟨rfl, m5, b5⟩))
          have M2 := hid1 (And.intro ((show IsM w5 B (Lb w0.heap.size w5) C (n + 16) X' from m5.more (by omega))) b5)
          clear m5 b5 ct m2 B2 c0 c1 c2 c3 c4 c5 c6 c7 c8 c9 c10 c11 c12 c13
          go_wp2
          go_ret
          exact ⟨i, rfl, hfi, hi, I.out, M2.out.2, fun _ => ⟨hm2.out, X', fin.out.1, M2.out.1, fin.out.2⟩⟩
    · obtain rfl : i = lE := by omega
      have hltz : ¬ (i : Int) < (i : Int) := by omega
      go_wp2
      go_ret
      exact ⟨i, rfl, hfi, Nat.le_refl _, I.out, M.out.2, fun h => absurd h (Nat.lt_irrefl _)⟩
end Go.Proofs.Ytecppcakgfohbab
/- lin.search: what it keeps; a scope with two labels. -/
namespace Go.Proofs.Ytecppcakgfohbab
open Go.RowKit
set_option linter.unusedSimpArgs false
set_option linter.unusedVariables false

/-- As Q; by a goto to label 0: J0; to label 1: J1. -/
def jump2 (J0 J1 : Act → World → Prop) (Q : Exit → Act → World → Prop) : Exit → Act → World → Prop
  | .goto l, a, w => (l = 0 ∧ J0 a w) ∨ (l = 1 ∧ J1 a w)
  | e, a, w => Q e a w
/-- A scope whose two labels are jumped to: what holds at a jump, with a number that falls. -/
theorem scope_two {P : Program} {a : Act} {w : World} {Q : Exit → Act → World → Prop} {c r0 r1 : Code} (J0 J1 : Nat → Act → World → Prop) (h0 : findLabel c 0 = some (Code.skip.seq r0)) (h1 : findLabel c 1 = some (Code.skip.seq r1))
    (p0 : ∀ n a w, J0 n a w → r0.wp P (jump2 (fun a' w' => ∃ m, m < n ∧ J0 m a' w') (fun a' w' => ∃ m, m < n ∧ J1 m a' w') Q) a w)
    (p1 : ∀ n a w, J1 n a w → r1.wp P (jump2 (fun a' w' => ∃ m, m < n ∧ J0 m a' w') (fun a' w' => ∃ m, m < n ∧ J1 m a' w') Q) a w)
    (first : (∀ n a w, J0 n a w → r0.wp P (jump2 (fun a' w' => ∃ m, J0 m a' w') (fun a' w' => ∃ m, J1 m a' w') Q) a w) → c.wp P (jump2 (fun a' w' => ∃ m, J0 m a' w') (fun a' w' => ∃ m, J1 m a' w') Q) a w) : (Code.scope c).wp P Q a w := by
  intro b k cs
  have hg0 : gotoIn 0 (.inScope c :: k) = some (.code (Code.skip.seq r0) :: .inScope c :: k) := by simp [gotoIn, h0]
  have hg1 : gotoIn 1 (.inScope c :: k) = some (.code (Code.skip.seq r1) :: .inScope c :: k) := by simp [gotoIn, h1]
  have key : ∀ n a w, (J0 n a w → ∃ e a' w', Q e a' w' ∧ Arrives P (lone (b.at a (.code (Code.skip.seq r0) :: .inScope c :: k)) cs w) b k cs e a' w') ∧ (J1 n a w → ∃ e a' w', Q e a' w' ∧ Arrives P (lone (b.at a (.code (Code.skip.seq r1) :: .inScope c :: k)) cs w) b k cs e a' w') := by
    intro n
    induction n using Nat.strongRecOn with
    | _ n ih =>
      intro a w
      have go : ∀ {r : Code}, (r.wp P (jump2 (fun a' w' => ∃ m, m < n ∧ J0 m a' w') (fun a' w' => ∃ m, m < n ∧ J1 m a' w') Q) a w) → ∃ e a' w', Q e a' w' ∧ Arrives P (lone (b.at a (.code (Code.skip.seq r) :: .inScope c :: k)) cs w) b k cs e a' w' := by
        intro r hp
        have hp' : (Code.skip.seq r).wp P (jump2 (fun a' w' => ∃ m, m < n ∧ J0 m a' w') (fun a' w' => ∃ m, m < n ∧ J1 m a' w') Q) a w := wp_seq (wp_skip hp)
        obtain ⟨e, a₁, w₁, hq, harr⟩ := hp' b (.inScope c :: k) cs
        cases e with
        | normal => exact ⟨.normal, a₁, w₁, hq, Steps.trans harr (.one step_inScope)⟩
        | exit id => exact ⟨.exit id, a₁, w₁, hq, fun k' hk => harr k' (by simp [exitTo, hk])⟩
        | goto l' =>
          rcases hq with ⟨rfl, m, hm, hJ⟩ | ⟨rfl, m, hm, hJ⟩
          · obtain ⟨e₂, a₂, w₂, hq₂, harr₂⟩ := (ih m hm a₁ w₁).1 hJ
            exact ⟨e₂, a₂, w₂, hq₂, .of_steps (harr _ hg0) harr₂⟩
          · obtain ⟨e₂, a₂, w₂, hq₂, harr₂⟩ := (ih m hm a₁ w₁).2 hJ
            exact ⟨e₂, a₂, w₂, hq₂, .of_steps (harr _ hg1) harr₂⟩
        | ret => exact ⟨_, a₁, w₁, hq, harr⟩
        | panic ch => exact ⟨_, a₁, w₁, hq, harr⟩
        | outgrown => exact ⟨_, a₁, w₁, hq, harr⟩
      exact ⟨fun hJ => go (p0 n a w hJ), fun hJ => go (p1 n a w hJ)⟩
  have weak : ∀ n a w, J0 n a w → r0.wp P (jump2 (fun a' w' => ∃ m, J0 m a' w') (fun a' w' => ∃ m, J1 m a' w') Q) a w := fun n a w h => by
    refine Code.wp_mono (fun e a' w' q => ?_) (p0 n a w h)
    cases e with
    | goto l' =>
      rcases q with ⟨q, m, _, hJ⟩ | ⟨q, m, _, hJ⟩
      · exact .inl ⟨q, m, hJ⟩
      · exact .inr ⟨q, m, hJ⟩
    | normal => exact q
    | exit id => exact q
    | ret => exact q
    | panic ch => exact q
    | outgrown => exact q
  obtain ⟨e, a₁, w₁, hq, harr⟩ := first weak b (.inScope c :: k) cs
  cases e with
  | normal => exact ⟨.normal, a₁, w₁, hq, .head step_scope (Steps.trans harr (.one step_inScope))⟩
  | exit id => exact ⟨.exit id, a₁, w₁, hq, fun k' hk => .head step_scope (harr k' (by simp [exitTo, hk]))⟩
  | goto l' =>
    rcases hq with ⟨rfl, m, hJ⟩ | ⟨rfl, m, hJ⟩
    · obtain ⟨e₂, a₂, w₂, hq₂, harr₂⟩ := (key m a₁ w₁).1 hJ
      exact ⟨e₂, a₂, w₂, hq₂, .of_steps (.head step_scope (harr _ hg0)) harr₂⟩
    · obtain ⟨e₂, a₂, w₂, hq₂, harr₂⟩ := (key m a₁ w₁).2 hJ
      exact ⟨e₂, a₂, w₂, hq₂, .of_steps (.head step_scope (harr _ hg1)) harr₂⟩
  | ret => exact ⟨_, a₁, w₁, hq, .of_steps (.one step_scope) harr⟩
  | panic ch => exact ⟨_, a₁, w₁, hq, .of_steps (.one step_scope) harr⟩
  | outgrown => exact ⟨_, a₁, w₁, hq, .of_steps (.one step_scope) harr⟩

def Rg (lo hi i : Nat) : Prop := lo ≤ i ∧ i < hi
/-- A kept model: what it is, in blocks of its own. -/
def Kp (C : Cg) (E : List Ev) (w : World) (vo vk : Value) (P : List Nat) (B : Nat) : Prop :=
  ∃ X lo hi, rsX C E P (sx0 C.c) = some X ∧ IsM w B (Rg lo hi) C (16 * P.length) X ∧ X.Inv P.length ∧ hi ≤ w.heap.size ∧ (∀ g, vo.ownBlock = some g → ¬ Rg lo hi g) ∧ ∀ g, vk.ownBlock = some g → ¬ Rg lo hi g
theorem Kp.below {C : Cg} {E : List Ev} {w w' : World} {vo vk : Value} {P : List Nat} {B : Nat} (h : Kp C E w vo vk P B) (b : Below w.heap.size w w') : Kp C E w' vo vk P B := by
  obtain ⟨X, lo, hi, h1, h2, h3, h4, h5, h6⟩ := h
  exact ⟨X, lo, hi, h1, h2.below b, h3, Nat.le_trans h4 b.size, h5, h6⟩
theorem Kp.grow {C : Cg} {E : List Ev} {w w' : World} {vo vk vo' vk' : Value} {P : List Nat} {B : Nat} (h : Kp C E w vo vk P B) {x : Option Nat} (b : w.grownBy w' x) (hx : x = vo.ownBlock ∨ x = vk.ownBlock) (ho : vo'.ownBlock = vo.ownBlock ∨ ∃ g, vo'.ownBlock = some g ∧ w.heap.size ≤ g) (hk : vk'.ownBlock = vk.ownBlock ∨ ∃ g, vk'.ownBlock = some g ∧ w.heap.size ≤ g) : Kp C E w' vo' vk' P B := by
  obtain ⟨X, lo, hi, h1, h2, h3, h4, h5, h6⟩ := h
  have far : ∀ g, w.heap.size ≤ g → ¬ Rg lo hi g := fun g hg q => by have := q.2; omega
  refine ⟨X, lo, hi, h1, h2.chg (L2 := fun i => x = some i) ⟨b.os, b.tape, b.output, b.size, fun i hi hn => b.block i hi (fun e => hn e.symm)⟩ (fun i hi e => ?_), h3, Nat.le_trans h4 b.size, fun g hg => ?_, fun g hg => ?_⟩
  · rcases hx with hx | hx
    · exact h5 i (hx ▸ e) hi
    · exact h6 i (hx ▸ e) hi
  · rcases ho with ho | ⟨g', e, hge⟩
    · exact h5 g (ho ▸ hg)
    · rw [e] at hg; obtain rfl := Option.some.inj hg; exact far _ hge
  · rcases hk with hk | ⟨g', e, hge⟩
    · exact h6 g (hk ▸ hg)
    · rw [e] at hg; obtain rfl := Option.some.inj hg; exact far _ hge
/-- The search under way. -/
structure Sr (w0 : World) (C : Cg) (E : List Ev) (w : World) (O : List Nat) (vo vk : Value) (K : List Nat) : Prop where
  bel : Below w0.heap.size w0 w
  ord : IsZ w vo (zI O)
  ow : ∀ g, vo.ownBlock = some g → w0.heap.size ≤ g
  kep : IsP w vk K
  kw : ∀ g, vk.ownBlock = some g → w0.heap.size ≤ g
  md : ∀ k B, K[k]? = some B → Kp C E w vo vk (O.take k) B
theorem Sr.below {w0 : World} {C : Cg} {E : List Ev} {w w' : World} {O : List Nat} {vo vk : Value} {K : List Nat} (h : Sr w0 C E w O vo vk K) (b : Below w.heap.size w w') : Sr w0 C E w' O vo vk K :=
  ⟨seq_below h.bel b, h.ord.below b, h.ow, h.kep.below b, h.kw, fun k B hk => (h.md k B hk).below b⟩
theorem Sr.ne {w0 : World} {C : Cg} {E : List Ev} {w : World} {O : List Nat} {vo vk : Value} {K : List Nat} (h : Sr w0 C E w O vo vk K) : ∀ g, vo.ownBlock = some g → vk.ownBlock ≠ some g := fun g hg hk => by
  rcases h.ord with ⟨rfl, _⟩ | ⟨g1, _, _, _, rfl, h1, _⟩
  · cases hg
  rcases h.kep with ⟨rfl, _⟩ | ⟨g2, _, _, _, rfl, h2, _⟩
  · cases hk
  obtain rfl : g1 = g := by simpa [Value.ownBlock] using hg
  obtain rfl : g2 = g1 := by simpa [Value.ownBlock] using hk
  rw [h1] at h2
  simp only [Option.some.injEq, Obj.cells.injEq] at h2
  exact absurd h2.2.1 (by decide)
/-- A number more. -/
theorem Sr.push {w0 : World} {C : Cg} {E : List Ev} {w w' : World} {O : List Nat} {vo vk vo' : Value} {K : List Nat} (h : Sr w0 C E w O vo vk K) (hl : K.length = O.length + 1) {i : Nat} (hI : IsZ w' vo' (zI O ++ [(i : Int)])) (g : w.grownBy w' vo.ownBlock) (hp : vo'.ownBlock = vo.ownBlock ∨ ∃ g, vo'.ownBlock = some g ∧ w.heap.size ≤ g) : Sr w0 C E w' (O ++ [i]) vo' vk K where
  bel := ⟨g.os.trans h.bel.os, g.tape.trans h.bel.tape, g.output.trans h.bel.output, Nat.le_trans h.bel.size g.size, fun k hk => (g.block k (Nat.lt_of_lt_of_le hk h.bel.size) (fun e => by have := h.ow k e.symm; omega)).trans (h.bel.block k hk)⟩
  ord := by rw [zI_snoc]; exact hI
  ow := fun x hx => by
    rcases hp with hp | ⟨y, e, hy⟩
    · exact h.ow x (hp ▸ hx)
    · rw [e] at hx; obtain rfl := Option.some.inj hx; exact Nat.le_trans h.bel.size hy
  kep := h.kep.kept fun x hx => g.block x (h.kep.lt hx) (fun e => h.ne x e.symm hx)
  kw := h.kw
  md := fun k B hk => by
    have := (List.getElem?_eq_some_iff.1 hk).1
    rw [List.take_append_of_le_length (by omega)]
    exact (h.md k B hk).grow g (.inl rfl) hp (.inl rfl)
/-- A model more. -/
theorem Sr.keep {w0 : World} {C : Cg} {E : List Ev} {w w' : World} {O : List Nat} {vo vk vk' : Value} {K : List Nat} (h : Sr w0 C E w O vo vk K) (hl : K.length = O.length) {B : Nat} (hB : Kp C E w vo vk O B) (hI : IsP w' vk' (K ++ [B])) (g : w.grownBy w' vk.ownBlock) (hp : vk'.ownBlock = vk.ownBlock ∨ ∃ g, vk'.ownBlock = some g ∧ w.heap.size ≤ g) : Sr w0 C E w' O vo vk' (K ++ [B]) where
  bel := ⟨g.os.trans h.bel.os, g.tape.trans h.bel.tape, g.output.trans h.bel.output, Nat.le_trans h.bel.size g.size, fun k hk => (g.block k (Nat.lt_of_lt_of_le hk h.bel.size) (fun e => by have := h.kw k e.symm; omega)).trans (h.bel.block k hk)⟩
  ord := h.ord.kept fun x hx => g.block x (h.ord.lt hx) (fun e => h.ne x hx e.symm)
  ow := h.ow
  kep := hI
  kw := fun x hx => by
    rcases hp with hp | ⟨y, e, hy⟩
    · exact h.kw x (hp ▸ hx)
    · rw [e] at hx; obtain rfl := Option.some.inj hx; exact Nat.le_trans h.bel.size hy
  md := fun k B' hk => by
    by_cases q : k < K.length
    · rw [List.getElem?_append_left q] at hk
      exact (h.md k B' hk).grow g (.inr rfl) (.inl rfl) hp
    · rw [List.getElem?_append_right (by omega)] at hk
      have e := (List.getElem?_eq_some_iff.1 hk).1
      simp only [List.length_cons, List.length_nil] at e
      have e2 : k - K.length = 0 := by omega
      rw [e2] at hk
      obtain rfl : B = B' := by simpa using hk
      obtain rfl : k = O.length := by omega
      rw [List.take_length]
      exact hB.grow g (.inr rfl) (.inl rfl) hp
theorem IsP.cut {w : World} {ad : Option Addr} {n cap : Nat} {xs : List Nat} (h : IsP w (.slice ad n cap) xs) {k : Nat} (hk : k ≤ xs.length) : IsP w (.slice ad k k) (xs.take k) := by
  rcases h with ⟨h0, rfl⟩ | ⟨g, off, cap', cur, h1, hh, h2, h3, h4, hc⟩
  · simp only [Value.slice.injEq] at h0
    obtain ⟨rfl, rfl, rfl⟩ := h0
    obtain rfl : k = 0 := by simpa using hk
    exact .inl ⟨rfl, rfl⟩
  · simp only [Value.slice.injEq] at h1
    obtain ⟨rfl, rfl, rfl⟩ := h1
    have e : (xs.take k).length = k := by rw [List.length_take]; omega
    refine .inr ⟨g, off, k, cur, by rw [e], hh, by omega, by omega, by omega, fun i hi => ?_⟩
    rw [hc i (by omega)]
    congr 4
    rw [List.getD_eq_getElem?_getD, List.getD_eq_getElem?_getD, List.getElem?_take, if_pos (by omega)]
theorem own_slice (ad : Option Addr) (n c n' c' : Nat) : (Value.slice ad n c).ownBlock = (Value.slice ad n' c').ownBlock := by cases ad <;> rfl
/-- The last number, and its model, taken back. -/
theorem Sr.back {w0 : World} {C : Cg} {E : List Ev} {w : World} {O : List Nat} {a : Nat} {ao ak : Option Addr} {no co nk ck : Nat} {K : List Nat} (h : Sr w0 C E w (O ++ [a]) (.slice ao no co) (.slice ak nk ck) K) (hl : K.length = O.length + 2) : Sr w0 C E w O (.slice ao O.length co) (.slice ak (O.length + 1) (O.length + 1)) (K.take (O.length + 1)) where
  bel := h.bel
  ord := by
    have q := h.ord
    rw [zI_snoc] at q
    have := q.init
    rw [zI_len] at this
    exact this
  ow := fun g hg => h.ow g ((own_slice _ _ _ _ _).trans hg)
  kep := h.kep.cut (by omega)
  kw := fun g hg => h.kw g ((own_slice _ _ _ _ _).trans hg)
  md := fun k B hk => by
    rw [List.getElem?_take] at hk
    split at hk
    · rename_i q
      have := h.md k B hk
      rw [List.take_append_of_le_length (by omega)] at this
      obtain ⟨X, lo, hi, h1, h2, h3, h4, h5, h6⟩ := this
      exact ⟨X, lo, hi, h1, h2, h3, h4, fun g hg => h5 g ((own_slice _ _ _ _ _).trans hg), fun g hg => h6 g ((own_slice _ _ _ _ _).trans hg)⟩
    · cases hk
theorem copy_M {w : World} {B : Nat} {L : Nat → Prop} {C : Cg} {n : Nat} {X : Sx} (h : IsM w B L C n X) {N : Nat} (iv : X.Inv N) (hN : N < 1000000) (hc0 : 0 < C.c) (hc8 : C.c ≤ 8) :
    Calls Try.prog 26 #[.pointer (some ⟨B, 0, none⟩)] w fun r w' => ∃ B', r = .returned (.pointer (some ⟨B', 0, none⟩)) ∧ w.heap.size ≤ B' ∧ IsM w' B' (Lb w.heap.size w') C n X ∧ Below w.heap.size w w' := by
  obtain ⟨m, h⟩ := h
  exact copy_any h iv hN hc0 hc8
end Go.Proofs.Ytecppcakgfohbab
/- lin.search. -/
namespace Go.Proofs.Ytecppcakgfohbab
open Go.RowKit
set_option linter.unusedSimpArgs false
set_option linter.unusedVariables false

structure St (w0 : World) (C : Cg) (E : List Ev) (lE : Nat) (w : World) (O : List Nat) (vo vk : Value) (K : List Nat) (f : Nat) : Prop where
  sr : Sr w0 C E w O vo vk K
  len : K.length = O.length + 1
  gd : Gd C E O
  tri : Tri C E O f
  hf : f ≤ lE
  hO : O.length ≤ lE
def nV (O : List Nat) (f : Nat) : Nat := 16 ^ 9 - dvN 8 O f
def SJ0 (w0 : World) (C : Cg) (E : List Ev) (ad : Option Addr) (lE cap bc : Nat) (n : Nat) (a : Act) (wr : World) : Prop :=
  ∃ (O K : List Nat) (ao ak : Option Addr) (no co nk ck f : Nat) (u3 u9 u10 u11 u12 u13 u14 u15 u16 u17 u18 u19 u20 u21 u22 u23 u24 u25 u26 u27 u28 u29 u30 u31 u32 u33 u34 u35 u36 u37 u38 u39 u40 u41 u42 u43 u44 u45 u46 u47 u48 u49 u50 u51 u52 u53 u54 u55 u56 u57 u58 u59 u60 u61 u62 u63 : Value), a = { tmps := #[.agg (#[.int .i64 C.s, .int .i64 C.a, .int .i64 (C.c : Nat), .int .i64 C.d, .int .i64 C.g, .int .i64 C.k]), .slice ad lE cap, .pointer (some ⟨bc, 0, none⟩), u3, .slice none 0 0, .bool false, .slice ao no co, .slice ak nk ck, .int .i64 (f : Nat), u9, u10, u11, u12, u13, u14, u15, u16, u17, u18, u19, u20, u21, u22, u23, u24, u25, u26, u27, u28, u29, u30, u31, u32, u33, u34, u35, u36, u37, u38, u39, u40, u41, u42, u43, u44, u45, u46, u47, u48, u49, u50, u51, u52, u53, u54, u55, u56, u57, u58, u59, u60, u61, u62, u63], defers := [] } ∧ Hid (St w0 C E lE wr O (.slice ao no co) (.slice ak nk ck) K f) ∧ n = 2 * nV O f + 1
def SJ1 (w0 : World) (C : Cg) (E : List Ev) (ad : Option Addr) (lE cap bc : Nat) (n : Nat) (a : Act) (wr : World) : Prop :=
  ∃ (O K : List Nat) (ao ak : Option Addr) (no co nk ck f : Nat) (u3 u9 u10 u11 u12 u13 u14 u15 u16 u17 u18 u19 u20 u21 u22 u23 u24 u25 u26 u27 u28 u29 u30 u31 u32 u33 u34 u35 u36 u37 u38 u39 u40 u41 u42 u43 u44 u45 u46 u47 u48 u49 u50 u51 u52 u53 u54 u55 u56 u57 u58 u59 u60 u61 u62 u63 : Value), a = { tmps := #[.agg (#[.int .i64 C.s, .int .i64 C.a, .int .i64 (C.c : Nat), .int .i64 C.d, .int .i64 C.g, .int .i64 C.k]), .slice ad lE cap, .pointer (some ⟨bc, 0, none⟩), u3, .slice none 0 0, .bool false, .slice ao no co, .slice ak nk ck, .int .i64 (f : Nat), u9, u10, u11, u12, u13, u14, u15, u16, u17, u18, u19, u20, u21, u22, u23, u24, u25, u26, u27, u28, u29, u30, u31, u32, u33, u34, u35, u36, u37, u38, u39, u40, u41, u42, u43, u44, u45, u46, u47, u48, u49, u50, u51, u52, u53, u54, u55, u56, u57, u58, u59, u60, u61, u62, u63], defers := [] } ∧ Hid (St w0 C E lE wr O (.slice ao no co) (.slice ak nk ck) K f ∧ O.length < lE ∧ ∃ X, rsX C E O (sx0 C.c) = some X ∧ NoX C E O X f lE) ∧ n = 2 * nV O f
theorem SJ0.mk {w0 : World} {C : Cg} {E : List Ev} {ad : Option Addr} {lE cap bc : Nat} {wr : World} {O K : List Nat} {ao ak : Option Addr} {no co nk ck f : Nat} {u3 u9 u10 u11 u12 u13 u14 u15 u16 u17 u18 u19 u20 u21 u22 u23 u24 u25 u26 u27 u28 u29 u30 u31 u32 u33 u34 u35 u36 u37 u38 u39 u40 u41 u42 u43 u44 u45 u46 u47 u48 u49 u50 u51 u52 u53 u54 u55 u56 u57 u58 u59 u60 u61 u62 u63 : Value} (h : St w0 C E lE wr O (.slice ao no co) (.slice ak nk ck) K f) : SJ0 w0 C E ad lE cap bc (2 * nV O f + 1) { tmps := #[.agg (#[.int .i64 C.s, .int .i64 C.a, .int .i64 (C.c : Nat), .int .i64 C.d, .int .i64 C.g, .int .i64 C.k]), .slice ad lE cap, .pointer (some ⟨bc, 0, none⟩), u3, .slice none 0 0, .bool false, .slice ao no co, .slice ak nk ck, .int .i64 (f : Nat), u9, u10, u11, u12, u13, u14, u15, u16, u17, u18, u19, u20, u21, u22, u23, u24, u25, u26, u27, u28, u29, u30, u31, u32, u33, u34, u35, u36, u37, u38, u39, u40, u41, u42, u43, u44, u45, u46, u47, u48, u49, u50, u51, u52, u53, u54, u55, u56, u57, u58, u59, u60, u61, u62, u63], defers := [] } wr :=
  ⟨O, K, ao, ak, no, co, nk, ck, f, u3, u9, u10, u11, u12, u13, u14, u15, u16, u17, u18, u19, u20, u21, u22, u23, u24, u25, u26, u27, u28, u29, u30, u31, u32, u33, u34, u35, u36, u37, u38, u39, u40, u41, u42, u43, u44, u45, u46, u47, u48, u49, u50, u51, u52, u53, u54, u55, u56, u57, u58, u59, u60, u61, u62, u63, rfl, hid1 h, rfl⟩
theorem SJ1.mk {w0 : World} {C : Cg} {E : List Ev} {ad : Option Addr} {lE cap bc : Nat} {wr : World} {O K : List Nat} {ao ak : Option Addr} {no co nk ck f : Nat} {u3 u9 u10 u11 u12 u13 u14 u15 u16 u17 u18 u19 u20 u21 u22 u23 u24 u25 u26 u27 u28 u29 u30 u31 u32 u33 u34 u35 u36 u37 u38 u39 u40 u41 u42 u43 u44 u45 u46 u47 u48 u49 u50 u51 u52 u53 u54 u55 u56 u57 u58 u59 u60 u61 u62 u63 : Value} (h : St w0 C E lE wr O (.slice ao no co) (.slice ak nk ck) K f) (h2 : O.length < lE) {X : Sx} (hX : rsX C E O (sx0 C.c) = some X) (hn : NoX C E O X f lE) : SJ1 w0 C E ad lE cap bc (2 * nV O f) { tmps := #[.agg (#[.int .i64 C.s, .int .i64 C.a, .int .i64 (C.c : Nat), .int .i64 C.d, .int .i64 C.g, .int .i64 C.k]), .slice ad lE cap, .pointer (some ⟨bc, 0, none⟩), u3, .slice none 0 0, .bool false, .slice ao no co, .slice ak nk ck, .int .i64 (f : Nat), u9, u10, u11, u12, u13, u14, u15, u16, u17, u18, u19, u20, u21, u22, u23, u24, u25, u26, u27, u28, u29, u30, u31, u32, u33, u34, u35, u36, u37, u38, u39, u40, u41, u42, u43, u44, u45, u46, u47, u48, u49, u50, u51, u52, u53, u54, u55, u56, u57, u58, u59, u60, u61, u62, u63], defers := [] } wr :=
  ⟨O, K, ao, ak, no, co, nk, ck, f, u3, u9, u10, u11, u12, u13, u14, u15, u16, u17, u18, u19, u20, u21, u22, u23, u24, u25, u26, u27, u28, u29, u30, u31, u32, u33, u34, u35, u36, u37, u38, u39, u40, u41, u42, u43, u44, u45, u46, u47, u48, u49, u50, u51, u52, u53, u54, u55, u56, u57, u58, u59, u60, u61, u62, u63, rfl, hid1 ⟨h, h2, X, hX, hn⟩, rfl⟩
theorem Gd.small {C : Cg} {E : List Ev} {O : List Nat} (h : Gd C E O) (h7 : E.length ≤ 7) : ∀ i ∈ O, i < 7 := fun i hi => Nat.lt_of_lt_of_le (h.mem i hi) h7
/-- The number falls. -/
theorem nV_deep {C : Cg} {E : List Ev} {O : List Nat} {f i : Nat} (h : Gd C E O) (h7 : E.length ≤ 7) (hO : O.length < E.length) (hf : f ≤ i) (hi : i < E.length) : nV (O ++ [i]) 0 < nV O f := by
  unfold nV
  have h1 := dvN_deep O 8 f i (by omega) hf
  have h2 := dvN_lt (O ++ [i]) 8 0 (by simp; omega) (fun j hj => by
    rcases List.mem_append.1 hj with q | q
    · exact h.small h7 j q
    · obtain rfl := List.mem_singleton.1 q
      omega) (by omega)
  omega
theorem nV_back {C : Cg} {E : List Ev} {O : List Nat} {f a : Nat} (h : Gd C E (O ++ [a])) (h7 : E.length ≤ 7) (hO : O.length + 1 < E.length) (hf : f ≤ 7) : nV O (a + 1) < nV (O ++ [a]) f := by
  unfold nV
  have h1 := dvN_back O 8 f a (by omega) hf
  have hs := h.small h7
  have ha := hs a (by simp)
  have h2 := dvN_lt O 8 (a + 1) (by omega) (fun j hj => hs j (List.mem_append_left _ hj)) (by omega)
  omega
theorem Gd.front {C : Cg} {E : List Ev} {O : List Nat} {a : Nat} (h : Gd C E (O ++ [a])) : Gd C E O where
  lt := fun k i hk => h.lt k i (by rw [List.getElem?_append_left (List.getElem?_eq_some_iff.1 hk).1]; exact hk)
  may := fun k i hk => by
    have hl := (List.getElem?_eq_some_iff.1 hk).1
    have := h.may k i (by rw [List.getElem?_append_left hl]; exact hk)
    rw [List.take_append_of_le_length (by omega)] at this
    exact this
  tk := rsX_front h.tk
theorem St.back {w0 : World} {C : Cg} {E : List Ev} {lE : Nat} {w : World} {O : List Nat} {a : Nat} {ao ak : Option Addr} {no co nk ck : Nat} {K : List Nat} {f : Nat} (h : St w0 C E lE w (O ++ [a]) (.slice ao no co) (.slice ak nk ck) K f) (hl : lE = E.length) (hlt : O.length + 1 < lE) {X : Sx} (hX : rsX C E (O ++ [a]) (sx0 C.c) = some X) (hn : NoX C E (O ++ [a]) X f lE) : St w0 C E lE w O (.slice ao O.length co) (.slice ak (O.length + 1) (O.length + 1)) (K.take (O.length + 1)) (a + 1) where
  sr := h.sr.back (by have := h.len; simpa using this)
  len := by have := h.len; rw [List.length_append, List.length_singleton] at this; rw [List.length_take]; omega
  gd := h.gd.front
  tri := h.tri.back hX (hl ▸ hn) (by omega)
  hf := by have := h.gd.mem a (by simp); omega
  hO := by omega
/-- A model in a row of one. -/
theorem IsP.one {w : World} {g B : Nat} (h : w.heap[g]? = some (.cells #[.pointer (some ⟨B, 0, none⟩)] 60 (0, 0))) : IsP w (.slice (some ⟨g, 0, none⟩) 1 1) [B] :=
  .inr ⟨g, 0, 1, _, rfl, h, Nat.le_refl _, by decide, Nat.le_refl _, fun i hi => by
    obtain rfl : i = 0 := by simpa using hi
    rfl⟩
theorem ptr_new (w : World) (B : Nat) (t : TypeId) : ∀ j u, (ptrs [B])[j]? = some u → (w.alloc (.cells #[.pointer (some ⟨B, 0, none⟩)] t)).cell? ((⟨w.heap.size, 0, none⟩ : Addr).add j) = some u := cell_one_new w _ t
end Go.Proofs.Ytecppcakgfohbab
/- lin.search: the walk. -/
namespace Go.Proofs.Ytecppcakgfohbab
open Go.RowKit
set_option linter.unusedSimpArgs false
set_option linter.unusedVariables false

set_option maxRecDepth 100000 in
set_option maxHeartbeats 8000000 in
theorem search_any {w : World} (C : Cg) (hR : rightB C.s C.a (C.c : Nat) C.d C.g C.k = true) {ad : Option Addr} {lE : Nat} (cap : Nat) {E : List Ev} (hl : lE = E.length) (hE : RdEv w ad E) (hI : ∀ e ∈ E, e.In) (hl7 : lE ≤ 7) :
    Calls Try.prog 16 #[.agg (cs C.s C.a (C.c : Nat) C.d C.g C.k), .slice ad lE cap] w fun r w' => Below w.heap.size w w' ∧
      ((∃ (O : List Nat) (ao : Option Addr) (co : Nat), r = .returned (.tuple #[.slice ao lE co, .bool true]) ∧ O.length = lE ∧ IsZ w' (.slice ao lE co) (zI O) ∧ Gd C E O ∧ Tri C E O 0) ∨
       (r = .returned (.tuple #[.slice none 0 0, .bool false]) ∧ ∀ P, Gd C E P → P.length ≠ E.length)) := by
  have hCa : C.a ≤ 8 := (rightB_iff.1 hR).2.1.2
  have hc := (rightB_iff.1 hR).2.2.1
  have bx := alloc_below w (.cells (cs C.s C.a (C.c : Nat) C.d C.g C.k) 23)
  have cN := fun w0 => new_yes C hR w0
  replace hl := hid1 hl
  replace hE := hid1 hE
  replace hI := hid1 hI
  replace hl7 := hid1 hl7
  replace hCa := hid1 hCa
  replace hc := hid1 hc
  clear hR
  unfold cs at *
  go_enter Try.func16, Try.ntmps16
  have hq := new_obj w (.cells #[.int .i64 C.s, .int .i64 C.a, .int .i64 (C.c : Nat), .int .i64 C.d, .int .i64 C.g, .int .i64 C.k] 23)
  go_upto_region 1 with fail
  generalize World.alloc _ _ = w1 at *
  obtain ⟨bc, hbc⟩ : ∃ bc, w.heap.size = bc := ⟨_, rfl⟩
  rw [hbc] at hq ⊢
  replace hbc := hid1 hbc
  refine scope_two (SJ0 w C E ad lE cap bc) (SJ1 w C E ad lE cap bc) rfl rfl ?_ ?_ ?_
  · intro n a wr hJ
    clear cN bx
    obtain ⟨O, K, ao, ak, no, co, nk, ck, f, u3, u9, u10, u11, u12, u13, u14, u15, u16, u17, u18, u19, u20, u21, u22, u23, u24, u25, u26, u27, u28, u29, u30, u31, u32, u33, u34, u35, u36, u37, u38, u39, u40, u41, u42, u43, u44, u45, u46, u47, u48, u49, u50, u51, u52, u53, u54, u55, u56, u57, u58, u59, u60, u61, u62, u63, rfl, hs, rfl⟩ := hJ
    have hno : no = O.length := by have := hs.out.sr.ord.len.1; rw [zI_len] at this; exact this
    have hnk : nk = O.length + 1 := hs.out.sr.kep.len.1.trans hs.out.len
    obtain ⟨lo, hlo⟩ : ∃ l, O.length = l := ⟨_, rfl⟩
    rw [hlo] at hno hnk
    subst hno
    subst hnk
    by_cases hq : no = lE
    · subst hq
      go_wp2
      simp only [jump2]
      go_ret2
      exact ⟨hs.out.sr.bel, .inl ⟨O, ao, co, rfl, hlo, hs.out.sr.ord, hs.out.gd, ⟨hs.out.tri.ins, fun _ _ _ _ _ _ => Nat.zero_le _⟩⟩⟩
    · have g1 : ((no : Int) == (lE : Int)) = false := by simp; omega
      have hlt : no < lE := by have := hs.out.hO; omega
      obtain ⟨gk, ok, rfl⟩ : ∃ g o, ak = some ⟨g, o, none⟩ := by
        obtain ⟨ad', cp', h1, _, h2⟩ := hs.out.sr.kep.form
        simp only [Value.slice.injEq] at h1
        obtain ⟨g, o, h3⟩ := h2 (fun e => by have := hs.out.len; rw [e] at this; simp at this)
        exact ⟨g, o, h1.1.trans h3⟩
      have hKl : no < K.length := by have := hs.out.len; omega
      obtain ⟨B, hB⟩ : ∃ B, K[no]? = some B := ⟨_, List.getElem?_eq_getElem hKl⟩
      have xk : wr.cell? ⟨gk, ok + no, none⟩ = some (.pointer (some ⟨B, 0, none⟩)) := by
        rw [hs.out.sr.kep.cell no hKl, List.getD_eq_getElem?_getD, hB]
        rfl
      obtain ⟨X, lo, hi, hX, hM, iv, hhi, hgo, hgk⟩ := hs.out.sr.md no B hB
      rw [show O.take no = O from by rw [← hlo, List.take_length]] at hX hM iv
      have h7 := hl7.out
      have cC := hid1 (copy_M hM iv (by omega) (by have := hc.out; omega) (by have := hc.out; omega))
      have bel0 := hs.out.sr.bel
      have cX := hid1 fun (w2 : World) (B' : Nat) (m2 : IsM w2 B' (Lb wr.heap.size w2) C (16 * O.length) X) (b2 : Below wr.heap.size wr w2) => next_any (f := f) m2 b2 iv (by omega) (by omega) hCa.out cap hl.out (hE.out.below bel0) hI.out h7 hs.out.sr.ord hs.out.hf
      have g2 : (no : Int) < ((no + 1 : Nat) : Int) := by omega
      have g3 : (0 : Int) ≤ (no : Int) := by omega
      generalize hlk : no + 1 = lk at *
      replace hX := hid1 hX
      replace hlo := hid1 hlo
      replace hlt := hid1 hlt
      replace hlk := hid1 hlk
      clear hM iv hhi hgo hgk h7 bel0 hKl hB hq
      go_upto_region 7 with (go_at_call 26; with_reducible refine cC.out.mono ?_; rintro r w2 ⟨B', rfl, hB', m2, b2⟩)
      replace cX := hid1 (cX.out w2 B' m2 b2)
      clear m2 b2 cC xk
      go_upto_region 8 with (go_at_call 27; with_reducible refine cX.out.mono ?_; rintro r w3 ⟨i, rfl, hfi, hi, hno, b3, hyes⟩)
      have hst := hid1 (show St w C E lE w3 O (.slice ao no co) (.slice (some ⟨gk, ok, none⟩) lk ck) K f from { hs.out with sr := hs.out.sr.below b3 })
      by_cases hiE : i = lE
      · have g4 : ((i : Int) == (lE : Int)) = true := by simp; omega
        have hno2 := hid1 (hiE ▸ hno)
        clear hno hyes b3 cX
        go_wp2
        go_step3
        exact Or.inr (And.intro rfl (Exists.intro _ (And.intro (Nat.lt_succ_self _) (SJ1.mk hst.out (by have := hlo.out; have := hlt.out; omega) hX.out hno2.out))))
      · have g4 : ((i : Int) == (lE : Int)) = false := by simp; omega
        obtain ⟨hm, X', hX', m3, iv3⟩ := hyes (by omega)
        have kp := hid1 (show Kp C E w3 (.slice ao no co) (.slice (some ⟨gk, ok, none⟩) lk ck) (O ++ [i]) B' from
          ⟨X', wr.heap.size, w3.heap.size, rsX_snoc hX.out hX', by rw [List.length_append, List.length_singleton]; exact m3.more (by omega), by rw [List.length_append, List.length_singleton]; exact iv3, Nat.le_refl _, fun g hg q => by have := hs.out.sr.ord.lt hg; have := q.1; omega, fun g hg q => by have := hs.out.sr.kep.lt hg; have := q.1; omega⟩)
        have hiz : i < E.length := by have := hl.out; omega
        have gd2 := hid1 (hst.out.gd.snoc hX.out hiz hm hX')
        have tri2 := hid1 (hst.out.tri.deeper hX.out hno)
        have mu := hid1 (show 2 * nV (O ++ [i]) 0 + 1 < 2 * nV O f + 1 from by
          have := nV_deep (f := f) hst.out.gd (by have := hl.out; have := hl7.out; omega) (by have := hl.out; have := hlo.out; have := hlt.out; omega) hfi hiz
          omega)
        have hsz := hid1 (show (zI O).length + [(i : Int)].length ≤ 1000000 from by rw [zI_len]; simp; have := hlo.out; have := hlt.out; have := hl7.out; omega)
        have hszk := hid1 (show K.length + [B'].length ≤ 1000000 from by simp; have := hst.out.len; have := hlo.out; have := hlt.out; have := hl7.out; omega)
        have hOl := hid1 (show (O ++ [i]).length ≤ lE from by simp; have := hlo.out; have := hlt.out; omega)
        clear hno hyes b3 cX hm hX' m3 iv3 hiz hs hiE hfi hi hB'
        go_upto_region 10 with (at_builtin; refine wpList_append_ints rfl _ _ rfl _ (zI O) [(i : Int)] rfl (hst.out.sr.ord.below (alloc_below _ (.cells #[.int .i64 (i : Int)] 3))) ⟨_, 0, none⟩ 1 1 rfl rfl (by simp) (one_new _ _ _) hsz.out ?_; intro v5 w5 hI5 g5 hp5)
        have sr5 := (hst.out.sr.below (alloc_below w3 (.cells #[.int .i64 (i : Int)] 3))).push hst.out.len hI5 g5 hp5
        replace kp := hid1 ((kp.out.below (alloc_below w3 (.cells #[.int .i64 (i : Int)] 3))).grow g5 (.inl rfl) hp5 (.inl rfl))
        have hlen := hid1 hst.out.len
        clear hst g5 hp5 hI5 hsz
        obtain ⟨ao5, co5, hv5, -, -⟩ := sr5.ord.form
        generalize (zI (O ++ [i])).length = no5 at hv5
        subst hv5
        replace sr5 := hid1 sr5
        go_wp2_with (at_builtin; refine wpList_append_ptrs rfl _ _ rfl _ K [B'] rfl (sr5.out.kep.below (alloc_below _ (.cells #[.pointer (some ⟨B', 0, none⟩)] 60))) ⟨_, 0, none⟩ 1 1 rfl rfl (by simp) (ptr_new _ _ _) hszk.out ?_; intro v7 w7 hI7 g7 hp7; have sr7 := (sr5.out.below (alloc_below _ (.cells #[.pointer (some ⟨B', 0, none⟩)] 60))).keep (by have := hlen.out; simp; omega) (kp.out.below (alloc_below _ (.cells #[.pointer (some ⟨B', 0, none⟩)] 60))) hI7 g7 hp7; obtain ⟨ak7, ck7, hv7, -, -⟩ := sr7.kep.form; generalize (K ++ [B']).length = nk7 at hv7; subst hv7; replace sr7 := hid1 sr7; clear hI7 g7 hp7 sr5 kp hszk)
        go_step3
        exact Or.inl (And.intro rfl (Exists.intro _ (And.intro mu.out (SJ0.mk ⟨sr7.out, by have := hlen.out; simp; omega, gd2.out, tri2.out, Nat.zero_le _, hOl.out⟩))))
  · intro n a wr hJ
    clear cN bx
    obtain ⟨O, K, ao, ak, no, co, nk, ck, f, u3, u9, u10, u11, u12, u13, u14, u15, u16, u17, u18, u19, u20, u21, u22, u23, u24, u25, u26, u27, u28, u29, u30, u31, u32, u33, u34, u35, u36, u37, u38, u39, u40, u41, u42, u43, u44, u45, u46, u47, u48, u49, u50, u51, u52, u53, u54, u55, u56, u57, u58, u59, u60, u61, u62, u63, rfl, hs, rfl⟩ := hJ
    have hno : no = O.length := by have := hs.out.1.sr.ord.len.1; rw [zI_len] at this; exact this
    have hnk : nk = O.length + 1 := hs.out.1.sr.kep.len.1.trans hs.out.1.len
    have hck := hs.out.1.sr.kep.len.2
    have hco := hs.out.1.sr.ord.len.2
    rcases List.eq_nil_or_concat O with hO | ⟨O1, a, hO⟩
    · subst hO
      obtain rfl : no = 0 := hno
      go_wp2
      simp only [jump2]
      go_ret2
      obtain ⟨st, h0, X, hX, hn⟩ := hs.out
      exact ⟨st.sr.bel, .inr ⟨rfl, fun P hP hl2 => st.tri.none hX (hl.out ▸ hn) (by have := hl.out; omega) P hP hl2 rfl⟩⟩
    · rw [List.concat_eq_append] at hO
      subst hO
      obtain ⟨l1, hl1⟩ : ∃ l, O1.length = l := ⟨_, rfl⟩
      rw [List.length_append, List.length_singleton, hl1] at hno hnk
      obtain ⟨go, oo, rfl⟩ : ∃ g o, ao = some ⟨g, o, none⟩ := by
        obtain ⟨ad', cp', h1, _, h2⟩ := hs.out.1.sr.ord.form
        simp only [Value.slice.injEq] at h1
        obtain ⟨g, o, h3⟩ := h2 (by rw [zI_snoc]; simp)
        exact ⟨g, o, h1.1.trans h3⟩
      obtain ⟨gk, ok, rfl⟩ : ∃ g o, ak = some ⟨g, o, none⟩ := by
        obtain ⟨ad', cp', h1, _, h2⟩ := hs.out.1.sr.kep.form
        simp only [Value.slice.injEq] at h1
        obtain ⟨g, o, h3⟩ := h2 (fun e => by have := hs.out.1.len; rw [e] at this; simp at this)
        exact ⟨g, o, h1.1.trans h3⟩
      have xa : wr.cell? ⟨go, oo + l1, none⟩ = some (.int .i64 (a : Nat)) := by
        have q := hs.out.1.sr.ord.cell l1 (by rw [zI_len]; simp; omega)
        rw [q, zI_snoc, List.getD_eq_getElem?_getD, List.getElem?_append_right (by rw [zI_len]; omega), zI_len, hl1]
        simp
      have ha7 : a < lE := by have := hs.out.1.gd.mem a (by simp); have := hl.out; omega
      have hlt : O1.length + 1 < lE := by have := hs.out.2.1; simpa using this
      have hst := hid1 (show St w C E lE wr O1 (.slice (some ⟨go, oo, none⟩) l1 co) (.slice (some ⟨gk, ok, none⟩) (l1 + 1) (l1 + 1)) (K.take (O1.length + 1)) (a + 1) from by
        obtain ⟨st, h0, X, hX, hn⟩ := hs.out
        have q := st.back hl.out hlt hX hn
        rw [hl1] at q
        exact hl1 ▸ q)
      have hmu := hid1 (show 2 * nV O1 (a + 1) + 1 < 2 * nV (O1 ++ [a]) f from by
        have := nV_back (f := f) hs.out.1.gd (by have := hl.out; have := hl7.out; omega) (by have := hl.out; omega) (by have := hs.out.1.hf; have := hl7.out; omega)
        omega)
      obtain rfl : no = l1 + 1 := hno
      obtain rfl : nk = l1 + 1 + 1 := hnk
      have h7 := hl7.out
      have e1 : IntKind.i64.wrap (((l1 + 1 : Nat) : Int) - 1) = (l1 : Int) := by rw [IntKind.wrap_i64]; omega
      have e2 : IntKind.i64.wrap ((a : Int) + 1) = ((a + 1 : Nat) : Int) := by rw [IntKind.wrap_i64]; omega
      have e3 : IntKind.i64.wrap ((l1 : Int) + 1) = ((l1 + 1 : Nat) : Int) := by rw [IntKind.wrap_i64]; omega
      generalize hl2 : l1 + 1 = l2 at *
      generalize ha2 : a + 1 = a2 at *
      have g1 : ((l2 : Int) == 0) = false := by simp; omega
      have g2 : (l1 : Int) < (l2 : Int) := by omega
      have g3 : (0 : Int) ≤ (l1 : Int) := by omega
      have g4 : (l1 : Int) ≤ (co : Int) := by omega
      have g5 : l1 ≤ co := by omega
      have g6 : (0 : Int) ≤ (l2 : Int) := by omega
      have g7 : (l2 : Int) ≤ (ck : Int) := by omega
      have g8 : l2 ≤ ck := by omega
      clear hs hl1 hck hco ha7 hlt hl2 ha2 h7
      go_wp2
      go_step3
      exact Or.inl (And.intro rfl (Exists.intro _ (And.intro hmu.out (SJ0.mk hst.out))))
  · intro HP
    replace HP := hid1 HP
    obtain ⟨s0, s1, s2, s3, s4, s5⟩ : w1.cell? ⟨bc, 0, none⟩ = some (.int .i64 C.s) ∧ w1.cell? ⟨bc, 1, none⟩ = some (.int .i64 C.a) ∧ w1.cell? ⟨bc, 2, none⟩ = some (.int .i64 (C.c : Nat)) ∧ w1.cell? ⟨bc, 3, none⟩ = some (.int .i64 C.d) ∧ w1.cell? ⟨bc, 4, none⟩ = some (.int .i64 C.g) ∧ w1.cell? ⟨bc, 5, none⟩ = some (.int .i64 C.k) := by simp [World.cell?, hq]
    clear hq
    go_upto_region 3 with (go_at_call 23; with_reducible refine (cN _).mono ?_; rintro r w2 ⟨B, rfl, b2, m2⟩)
    have hq2 := new_obj w2 (.cells #[.pointer (some ⟨B, 0, none⟩)] 60)
    have b3 := alloc_below w2 (.cells #[.pointer (some ⟨B, 0, none⟩)] 60)
    have hbk := Nat.le_trans bx.size b2.size
    have own2 : ∀ g, (Value.slice (some ⟨w2.heap.size, 0, none⟩) 1 1).ownBlock = some g → w2.heap.size = g := fun g hg => Option.some.inj hg
    have hst := hid1 (show St w C E lE (w2.alloc (.cells #[.pointer (some ⟨B, 0, none⟩)] 60)) [] (.slice none 0 0) (.slice (some ⟨w2.heap.size, 0, none⟩) 1 1) [B] 0 from
      { sr := { bel := seq_below (seq_below bx b2) b3
                ord := .inl ⟨rfl, rfl⟩
                ow := fun g hg => by cases hg
                kep := IsP.one hq2
                kw := fun g hg => own2 g hg ▸ hbk
                md := fun k B' hk => by
                  have e := (List.getElem?_eq_some_iff.1 hk).1
                  simp only [List.length_cons, List.length_nil] at e
                  obtain rfl : k = 0 := by omega
                  obtain rfl : B = B' := by simpa using hk
                  refine ⟨sx0 C.c, w1.heap.size, w2.heap.size, rfl, m2.below b3, sx0_inv C.c, b3.size, fun g hg => (by cases hg), fun g hg q => ?_⟩
                  have := own2 g hg
                  have := q.2
                  omega }
        len := rfl
        gd := Gd.nil C E
        tri := Tri.start C E
        hf := Nat.zero_le _
        hO := Nat.zero_le _ })
    clear hq2 b3 hbk own2 b2 m2 bx cN s0 s1 s2 s3 s4 s5
    generalize World.alloc _ _ = w3 at *
    generalize w2.heap.size = bk at *
    go_wp2
    go_step3
    rename_i K0 hK0
    refine hK0 _ _ ?_
    exact HP.out _ _ _ (SJ0.mk hst.out)
end Go.Proofs.Ytecppcakgfohbab
