/- Copy: the walk. -/
import Derived.Test.YtcccmmhpingmnaaVFa
namespace Go.Proofs.Ytcccmmhpingmnaa
open Go.RowKit
set_option linter.unusedSimpArgs false
set_option linter.unusedVariables false

set_option maxRecDepth 100000 in
set_option maxHeartbeats 4000000 in
theorem copy_any {w : World} {B : Nat} {L : Nat → Prop} {C : Cg} {n : Nat} {X : Sx} {m : Md} (h : MdOk w B L C n X m) {N : Nat} (iv : X.Inv N) (hN : N < 1000000) (hc0 : 0 < C.c) (hc8 : C.c ≤ 8) :
    Calls Try.prog 19 #[.pointer (some ⟨B, 0, none⟩)] w fun r w' => ∃ B', r = .returned (.pointer (some ⟨B', 0, none⟩)) ∧ w.heap.size ≤ B' ∧ IsM w' B' (Lb w.heap.size w') C n X ∧ Below w.heap.size w w' := by
  obtain ⟨adN, cpN, hvN⟩ := h.vN
  have H8 := hid1 fun (wr : World) (b : Below w.heap.size w wr) => h.below b
  have hF : X.F.length ≤ 1000000 := Nat.le_trans iv.nF (by omega)
  have hrow1 : ∀ u ∈ m.rows, u.oneCell' = true := fun u hu => by
    obtain ⟨a, ha⟩ := List.getElem?_of_mem hu
    have hal : a < X.F.length := by have := (List.getElem?_eq_some_iff.1 ha).1; have := h.nodes.1; omega
    obtain ⟨ad, cap, rfl, _⟩ := (h.row a _ u (List.getElem?_eq_getElem hal) ha).form
    rfl
  have hck1 : ∀ k, k < C.c → (m.ck k).oneCell' = true := fun k hk => by
    obtain ⟨ad, cap, e, _⟩ := (h.ms k hk).form
    rw [e]
    rfl
  have lt0 : B < w.heap.size := lt_of_block h.head
  replace hvN := hid1 hvN
  replace hrow1 := hid1 hrow1
  replace hck1 := hid1 hck1
  replace hF := hid1 hF
  replace iv := hid1 iv
  clear h
  go_enter Try.func19, Try.ntmps19
  go_upto_region 3 with fail
  refine wp_region_held_drew (S := fun wr => Below w.heap.size w wr) (by kernel_rfl) (Below.refl _ w).drew (fun hS1 => ?_)
  refine wpAnyH_take (i := 0) (oi := { dst := some 10, op := Go.Op.move (Go.Operand.tmp 0), type := 23, pos := "model.go:90", after := #[], guard := none }) (v := .pointer (some ⟨B, 0, none⟩)) rfl (by kernel_rfl) (by kernel_rfl) (by kernel_rfl) (fun _ _ _ h => h) (Or.inl ⟨by rfl, fun w hSw => by (try dsimp only at hSw); go_simp⟩) hS1 ?_
  simp only [Act.put, List.setIfInBounds_toArray, List.set_cons_zero, List.set_cons_succ]
  refine wpAnyH_take (i := 1) (oi := { dst := some 11, op := Go.Op.nilCheck (Go.Operand.tmp 10), type := 0, pos := "model.go:90", after := #[{ on := 0, ground := Go.Ground.data }], guard := none }) (v := .pointer (some ⟨B, 0, none⟩)) rfl (by kernel_rfl) (by kernel_rfl) (by kernel_rfl) (fun _ _ _ h => h) (Or.inl ⟨by rfl, fun w hSw => by (try dsimp only at hSw); go_simp⟩) hS1 ?_
  simp only [Act.put, List.setIfInBounds_toArray, List.set_cons_zero, List.set_cons_succ]
  refine wpAnyH_take (i := 2) (oi := { dst := some 12, op := Go.Op.fieldAddr 69 (Go.Operand.tmp 11) 0, type := 0, pos := "model.go:90", after := #[{ on := 1, ground := Go.Ground.data }], guard := none }) (v := .pointer (some ⟨B, 0, none⟩)) rfl (by kernel_rfl) (by kernel_rfl) (by kernel_rfl) (fun _ _ _ h => h) (Or.inl ⟨by rfl, fun w hSw => by (try dsimp only at hSw); go_simp⟩) hS1 ?_
  simp only [Act.put, List.setIfInBounds_toArray, List.set_cons_zero, List.set_cons_succ]
  refine wpAnyH_take (i := 3) (oi := { dst := some 13, op := Go.Op.load 26 (Go.Operand.tmp 12), type := 26, pos := "model.go:90", after := #[{ on := 2, ground := Go.Ground.data }], guard := none }) (v := .agg #[.int .i64 C.s, .int .i64 C.a, .int .i64 (C.c : Nat), .int .i64 C.d, .int .i64 C.g, .int .i64 C.k]) rfl (by kernel_rfl) (by kernel_rfl) (by kernel_rfl) (fun _ _ _ h => h) (Or.inl ⟨by rfl, fun w hSw => by (try dsimp only at hSw); obtain ⟨x0, x1, x2, x3, x4, x5, x6, x7, x8⟩ := (H8.out w hSw).cells; go_simp⟩) hS1 ?_
  simp only [Act.put, List.setIfInBounds_toArray, List.set_cons_zero, List.set_cons_succ]
  refine wpAnyH_take (i := 4) (oi := { dst := some 14, op := Go.Op.move (Go.Operand.tmp 0), type := 23, pos := "model.go:90", after := #[], guard := none }) (v := .pointer (some ⟨B, 0, none⟩)) rfl (by kernel_rfl) (by kernel_rfl) (by kernel_rfl) (fun _ _ _ h => h) (Or.inl ⟨by rfl, fun w hSw => by (try dsimp only at hSw); go_simp⟩) hS1 ?_
  simp only [Act.put, List.setIfInBounds_toArray, List.set_cons_zero, List.set_cons_succ]
  refine wpAnyH_take (i := 5) (oi := { dst := some 15, op := Go.Op.nilCheck (Go.Operand.tmp 14), type := 0, pos := "model.go:90", after := #[{ on := 4, ground := Go.Ground.data }], guard := none }) (v := .pointer (some ⟨B, 0, none⟩)) rfl (by kernel_rfl) (by kernel_rfl) (by kernel_rfl) (fun _ _ _ h => h) (Or.inl ⟨by rfl, fun w hSw => by (try dsimp only at hSw); go_simp⟩) hS1 ?_
  simp only [Act.put, List.setIfInBounds_toArray, List.set_cons_zero, List.set_cons_succ]
  refine wpAnyH_take (i := 6) (oi := { dst := some 16, op := Go.Op.fieldAddr 69 (Go.Operand.tmp 15) 1, type := 0, pos := "model.go:90", after := #[{ on := 5, ground := Go.Ground.data }], guard := none }) (v := .pointer (some ⟨B, 6, none⟩)) rfl (by kernel_rfl) (by kernel_rfl) (by kernel_rfl) (fun _ _ _ h => h) (Or.inl ⟨by rfl, fun w hSw => by (try dsimp only at hSw); go_simp⟩) hS1 ?_
  simp only [Act.put, List.setIfInBounds_toArray, List.set_cons_zero, List.set_cons_succ]
  refine wpAnyH_take (i := 7) (oi := { dst := some 17, op := Go.Op.load 29 (Go.Operand.tmp 16), type := 29, pos := "model.go:90", after := #[{ on := 6, ground := Go.Ground.data }], guard := none }) (v := .slice adN X.F.length cpN) rfl (by kernel_rfl) (by kernel_rfl) (by kernel_rfl) (fun _ _ _ h => h) (Or.inl ⟨by rfl, fun w hSw => by (try dsimp only at hSw); obtain ⟨x0, x1, x2, x3, x4, x5, x6, x7, x8⟩ := (H8.out w hSw).cells; rw [hvN.out] at x6; go_simp⟩) hS1 ?_
  simp only [Act.put, List.setIfInBounds_toArray, List.set_cons_zero, List.set_cons_succ]
  refine wpAnyH_take (i := 9) (oi := { dst := some 19, op := Go.Op.move (Go.Operand.tmp 0), type := 23, pos := "model.go:90", after := #[], guard := none }) (v := .pointer (some ⟨B, 0, none⟩)) rfl (by kernel_rfl) (by kernel_rfl) (by kernel_rfl) (fun _ _ _ h => h) (Or.inl ⟨by rfl, fun w hSw => by (try dsimp only at hSw); go_simp⟩) hS1 ?_
  simp only [Act.put, List.setIfInBounds_toArray, List.set_cons_zero, List.set_cons_succ]
  refine wpAnyH_take (i := 10) (oi := { dst := some 20, op := Go.Op.nilCheck (Go.Operand.tmp 19), type := 0, pos := "model.go:90", after := #[{ on := 9, ground := Go.Ground.data }], guard := none }) (v := .pointer (some ⟨B, 0, none⟩)) rfl (by kernel_rfl) (by kernel_rfl) (by kernel_rfl) (fun _ _ _ h => h) (Or.inl ⟨by rfl, fun w hSw => by (try dsimp only at hSw); go_simp⟩) hS1 ?_
  simp only [Act.put, List.setIfInBounds_toArray, List.set_cons_zero, List.set_cons_succ]
  refine wpAnyH_take (i := 11) (oi := { dst := some 21, op := Go.Op.fieldAddr 69 (Go.Operand.tmp 20) 2, type := 0, pos := "model.go:90", after := #[{ on := 10, ground := Go.Ground.data }], guard := none }) (v := .pointer (some ⟨B, 7, none⟩)) rfl (by kernel_rfl) (by kernel_rfl) (by kernel_rfl) (fun _ _ _ h => h) (Or.inl ⟨by rfl, fun w hSw => by (try dsimp only at hSw); go_simp⟩) hS1 ?_
  simp only [Act.put, List.setIfInBounds_toArray, List.set_cons_zero, List.set_cons_succ]
  refine wpAnyH_take (i := 12) (oi := { dst := some 22, op := Go.Op.load 66 (Go.Operand.tmp 21), type := 66, pos := "model.go:90", after := #[{ on := 11, ground := Go.Ground.data }], guard := none }) (v := .slice (some ⟨m.Bc, 0, none⟩) C.c m.cpC) rfl (by kernel_rfl) (by kernel_rfl) (by kernel_rfl) (fun _ _ _ h => h) (Or.inl ⟨by rfl, fun w hSw => by (try dsimp only at hSw); obtain ⟨x0, x1, x2, x3, x4, x5, x6, x7, x8⟩ := (H8.out w hSw).cells; go_simp⟩) hS1 ?_
  simp only [Act.put, List.setIfInBounds_toArray, List.set_cons_zero, List.set_cons_succ]
  refine wpAnyH_take (i := 14) (oi := { dst := some 24, op := Go.Op.move (Go.Operand.tmp 0), type := 23, pos := "model.go:90", after := #[], guard := none }) (v := .pointer (some ⟨B, 0, none⟩)) rfl (by kernel_rfl) (by kernel_rfl) (by kernel_rfl) (fun _ _ _ h => h) (Or.inl ⟨by rfl, fun w hSw => by (try dsimp only at hSw); go_simp⟩) hS1 ?_
  simp only [Act.put, List.setIfInBounds_toArray, List.set_cons_zero, List.set_cons_succ]
  refine wpAnyH_take (i := 15) (oi := { dst := some 25, op := Go.Op.nilCheck (Go.Operand.tmp 24), type := 0, pos := "model.go:90", after := #[{ on := 14, ground := Go.Ground.data }], guard := none }) (v := .pointer (some ⟨B, 0, none⟩)) rfl (by kernel_rfl) (by kernel_rfl) (by kernel_rfl) (fun _ _ _ h => h) (Or.inl ⟨by rfl, fun w hSw => by (try dsimp only at hSw); go_simp⟩) hS1 ?_
  simp only [Act.put, List.setIfInBounds_toArray, List.set_cons_zero, List.set_cons_succ]
  refine wpAnyH_take (i := 16) (oi := { dst := some 26, op := Go.Op.fieldAddr 69 (Go.Operand.tmp 25) 3, type := 0, pos := "model.go:90", after := #[{ on := 15, ground := Go.Ground.data }], guard := none }) (v := .pointer (some ⟨B, 8, none⟩)) rfl (by kernel_rfl) (by kernel_rfl) (by kernel_rfl) (fun _ _ _ h => h) (Or.inl ⟨by rfl, fun w hSw => by (try dsimp only at hSw); go_simp⟩) hS1 ?_
  simp only [Act.put, List.setIfInBounds_toArray, List.set_cons_zero, List.set_cons_succ]
  refine wpAnyH_take (i := 17) (oi := { dst := some 27, op := Go.Op.load 67 (Go.Operand.tmp 26), type := 67, pos := "model.go:90", after := #[{ on := 16, ground := Go.Ground.data }], guard := none }) (v := .map (some m.bG)) rfl (by kernel_rfl) (by kernel_rfl) (by kernel_rfl) (fun _ _ _ h => h) (Or.inl ⟨by rfl, fun w hSw => by (try dsimp only at hSw); obtain ⟨x0, x1, x2, x3, x4, x5, x6, x7, x8⟩ := (H8.out w hSw).cells; go_simp⟩) hS1 ?_
  simp only [Act.put, List.setIfInBounds_toArray, List.set_cons_zero, List.set_cons_succ]
  refine wpAnyH_ready (rs := [8]) (by kernel_rfl) (by simp) (AllReadyH.cons (o := { dst := some 18, op := Go.Op.call { callee := Go.Callee.value (Go.Operand.func 44), args := #[Go.Operand.tmp 17], argTypes := #[29] }, type := 29, pos := "model.go:90", after := #[{ on := 7, ground := Go.Ground.data }], guard := none }) rfl (fun K hK => ?_) AllReadyH.nil)
  go_simp
  have m1 := H8.out _ hS1
  have o1 := m1.nodes
  rw [hvN.out] at o1
  go_at_call 44
  with_reducible refine (clone_rows o1 hF.out hrow1.out).mono ?_
  rintro r w1 ⟨v1, rfl, own1, b1⟩
  (try simp only [])
  replace b1 := hS1.trans (b1.mono hS1.size)
  replace own1 : w1.ownsRow w.heap.size 57 1 v1 X.F.length m.rows := own1
  refine hK.out _ _ b1 (fun hS1 => ?_)
  (try simp only [Act.put, List.setIfInBounds_toArray, List.set_cons_zero, List.set_cons_succ])
  clear hK K m1 o1
  obtain ⟨ad1, cp1, hv1⟩ := own_form own1
  subst hv1
  refine wpAnyH_ready (rs := [13]) (by kernel_rfl) (by simp) (AllReadyH.cons (o := { dst := some 23, op := Go.Op.call { callee := Go.Callee.value (Go.Operand.func 45), args := #[Go.Operand.tmp 22], argTypes := #[66] }, type := 66, pos := "model.go:90", after := #[{ on := 12, ground := Go.Ground.data }, { on := 8, ground := Go.Ground.chain }], guard := none }) rfl (fun K hK => ?_) AllReadyH.nil)
  go_simp
  go_at_call 45
  with_reducible refine (clone_clients (H8.out _ b1).cl hc0 hc8 hck1.out).mono ?_
  rintro r w2 ⟨Bc', cap', x', rfl, hcl2, hb2, b2⟩
  (try simp only [])
  have own2 := own_kept own1 fun g hg => b2.block g (own1.lt g hg).2
  have hbc2 := Nat.le_trans b1.size hb2
  replace b2 := seq_below b1 b2
  refine hK.out _ _ b2 (fun hS1 => ?_)
  (try simp only [Act.put, List.setIfInBounds_toArray, List.set_cons_zero, List.set_cons_succ])
  clear hK K b1 own1 hb2
  refine wpAnyH_ready (rs := [18]) (by kernel_rfl) (by simp) (AllReadyH.cons (o := { dst := some 28, op := Go.Op.call { callee := Go.Callee.value (Go.Operand.func 46), args := #[Go.Operand.tmp 27], argTypes := #[67] }, type := 67, pos := "model.go:90", after := #[{ on := 17, ground := Go.Ground.data }, { on := 13, ground := Go.Ground.chain }], guard := none }) rfl (fun K hK => ?_) AllReadyH.nil)
  go_simp
  go_at_call 46
  with_reducible refine (clone_given (H8.out _ b2).gv).mono ?_
  rintro r w3 ⟨rfl, hgv3, o3, rfl⟩
  (try simp only [])
  have b3 := alloc_below w2 o3
  have own3 := own_kept own2 fun g hg => b3.block g (own2.lt g hg).2
  have hcl3 := (b3.block _ (lt_of_block hcl2)).trans hcl2
  obtain ⟨bG', hbG⟩ : ∃ bG', w2.heap.size = bG' := ⟨_, rfl⟩
  have hbg3 : w.heap.size ≤ bG' := hbG ▸ b2.size
  rw [hbG] at hgv3
  replace b3 := seq_below b2 b3
  refine hK.out _ _ b3 (fun hS1 => ?_)
  (try simp only [Act.put, List.setIfInBounds_toArray, List.set_cons_zero, List.set_cons_succ])
  (try simp only [hbG])
  clear hK K b2 own2 hcl2 hbG
  generalize World.alloc _ _ = w3 at *
  refine wpAnyH_take (i := 19) (oi := { dst := some 29, op := Go.Op.build 69 #[(0, Go.Operand.tmp 13), (1, Go.Operand.tmp 18), (2, Go.Operand.tmp 23), (3, Go.Operand.tmp 28)], type := 69, pos := "model.go:90", after := #[{ on := 3, ground := Go.Ground.data }, { on := 8, ground := Go.Ground.data }, { on := 13, ground := Go.Ground.data }, { on := 18, ground := Go.Ground.data }], guard := none }) (v := .agg #[.int .i64 C.s, .int .i64 C.a, .int .i64 (C.c : Nat), .int .i64 C.d, .int .i64 C.g, .int .i64 C.k, .slice ad1 X.F.length cp1, .slice (some ⟨Bc', 0, none⟩) C.c cap', .map (some bG')]) rfl (by kernel_rfl) (by kernel_rfl) (by kernel_rfl) (fun _ _ _ h => h) (Or.inl ⟨by rfl, fun w hSw => by (try dsimp only at hSw); go_simp⟩) hS1 ?_
  simp only [Act.put, List.setIfInBounds_toArray, List.set_cons_zero, List.set_cons_succ]
  refine wpAnyH_ready (rs := [20]) (by kernel_rfl) (by simp) (AllReadyH.cons (o := { dst := some 30, op := Go.Op.box 69 (Go.Operand.tmp 29), type := 23, pos := "model.go:90", after := #[{ on := 19, ground := Go.Ground.data }], guard := none }) rfl (fun K hK => ?_) AllReadyH.nil)
  go_simp
  have b4 := alloc_below w3 (.cells #[.int .i64 C.s, .int .i64 C.a, .int .i64 (C.c : Nat), .int .i64 C.d, .int .i64 C.g, .int .i64 C.k, .slice ad1 X.F.length cp1, .slice (some ⟨Bc', 0, none⟩) C.c cap', .map (some bG')] 69)
  have hB4 := new_obj w3 (.cells #[.int .i64 C.s, .int .i64 C.a, .int .i64 (C.c : Nat), .int .i64 C.d, .int .i64 C.g, .int .i64 C.k, .slice ad1 X.F.length cp1, .slice (some ⟨Bc', 0, none⟩) C.c cap', .map (some bG')] 69)
  obtain ⟨B', hB'⟩ : ∃ B', w3.heap.size = B' := ⟨_, rfl⟩
  have hB4' : w.heap.size ≤ B' := hB' ▸ b3.size
  rw [hB'] at hB4
  have hcp : Cpy w (w3.alloc (.cells #[.int .i64 C.s, .int .i64 C.a, .int .i64 (C.c : Nat), .int .i64 C.d, .int .i64 C.g, .int .i64 C.k, .slice ad1 X.F.length cp1, .slice (some ⟨Bc', 0, none⟩) C.c cap', .map (some bG')] 69)) B' C n X m (.slice ad1 X.F.length cp1) m.rows Bc' bG' cap' x' m.bk m.ck 0 0 0 :=
    { bel := seq_below b3 b4
      head := hB4
      cl := (b4.block _ (lt_of_block hcl3)).trans hcl3
      gv := hgv3.kept (b4.block _ hgv3.lt)
      lt := ⟨hB4', hbc2, hbg3⟩
      nodes := own_kept own3 fun g hg => b4.block g (own3.lt g hg).2
      rnew := fun a K u ha => absurd ha (by omega)
      rold := fun a _ => rfl
      rdis := fun a b u u' g ha => absurd ha (by omega)
      knew := fun k hk => absurd hk (by omega)
      kold := fun k _ => rfl
      kinj := fun k k' hk => absurd hk (by omega)
      cnew := fun k hk => absurd hk (by omega)
      cold := fun k _ => rfl }
  refine hK.out _ _ hcp.bel (fun hS1 => ?_)
  (try simp only [Act.put, List.setIfInBounds_toArray, List.set_cons_zero, List.set_cons_succ])
  (try simp only [hB'])
  clear hK K b3 own3 hcl3 hB' hgv3 hB4 b4
  generalize World.alloc _ _ = w4 at *
  refine wpAnyH_take (i := 21) (oi := { dst := some 3, op := Go.Op.assign (Go.Operand.tmp 30), type := 23, pos := "model.go:90", after := #[{ on := 20, ground := Go.Ground.data }, { on := 18, ground := Go.Ground.chain }, { on := 0, ground := Go.Ground.phase }, { on := 1, ground := Go.Ground.phase }, { on := 2, ground := Go.Ground.phase }, { on := 3, ground := Go.Ground.phase }, { on := 4, ground := Go.Ground.phase }, { on := 5, ground := Go.Ground.phase }, { on := 6, ground := Go.Ground.phase }, { on := 7, ground := Go.Ground.phase }, { on := 8, ground := Go.Ground.phase }, { on := 9, ground := Go.Ground.phase }, { on := 10, ground := Go.Ground.phase }, { on := 11, ground := Go.Ground.phase }, { on := 12, ground := Go.Ground.phase }, { on := 13, ground := Go.Ground.phase }, { on := 14, ground := Go.Ground.phase }, { on := 15, ground := Go.Ground.phase }, { on := 16, ground := Go.Ground.phase }, { on := 17, ground := Go.Ground.phase }, { on := 18, ground := Go.Ground.phase }, { on := 19, ground := Go.Ground.phase }, { on := 20, ground := Go.Ground.phase }], guard := none }) (v := .pointer (some ⟨B', 0, none⟩)) rfl (by kernel_rfl) (by kernel_rfl) (by kernel_rfl) (fun _ _ _ h => h) (Or.inl ⟨by rfl, fun w hSw => by (try dsimp only at hSw); go_simp⟩) hS1 ?_
  simp only [Act.put, List.setIfInBounds_toArray, List.set_cons_zero, List.set_cons_succ]
  refine wpAnyH_done (by kernel_rfl) ?_ _
  clear hS1
  have t0 : w4.cell? ⟨B', 6, none⟩ = some (.slice ad1 X.F.length cp1) := by have h' := hcp.head; simp [World.cell?, h']
  go_upto_region 5 with fail
  clear t0
  replace hcp := hid1 hcp
  replace lt0 := hid1 lt0
  go_loopg [4, 5, 36] X.F.length (fun g1 _ _ vi wr => ∃ (j : Nat) (rows : List Value), vi = .int .i64 j ∧ j ≤ X.F.length ∧ X.F.length - j ≤ g1 ∧ Hid (Cpy w wr B' C n X m (.slice ad1 X.F.length cp1) rows Bc' bG' cap' x' m.bk m.ck j 0 0))
  case atStart => exact ⟨0, m.rows, rfl, Nat.zero_le _, by omega, hcp⟩
  case round =>
    clear hcp
    obtain ⟨j, rows, rfl, hj, hg1, I⟩ := hrel
    by_cases hl : j < X.F.length
    · have hlz : (j : Int) < (X.F.length : Int) := by omega
      have hlen : rows.length = X.F.length := by have := I.out.nodes.1; omega
      obtain ⟨Kr, hKr⟩ : ∃ K, X.F[j]? = some K := ⟨_, List.getElem?_eq_getElem hl⟩
      obtain ⟨u, hu⟩ : ∃ u, rows[j]? = some u := ⟨_, List.getElem?_eq_getElem (by omega)⟩
      have hum := hu
      rw [I.out.rold j (Nat.le_refl _)] at hum
      have hzu := (H8.out _ I.out.bel).row j Kr u hKr hum
      obtain ⟨au, cu, hau, -, -⟩ := hzu.form
      subst hau
      obtain ⟨gN, hgN⟩ : ∃ gN, ad1 = some ⟨gN, 0, none⟩ := by
        rcases I.out.nodes.2 with ⟨q, q0⟩ | ⟨g, cap, cur, e, _⟩
        · omega
        · simp only [Value.slice.injEq] at e; exact ⟨g, e.1⟩
      subst hgN
      have hKl : Kr.length ≤ 1000000 := Nat.le_trans (iv.out.row Kr (List.mem_of_getElem? hKr)) (by omega)
      have hc1 : ∀ wx, Cpy w wx B' C n X m (.slice (some ⟨gN, 0, none⟩) X.F.length cp1) rows Bc' bG' cap' x' m.bk m.ck j 0 0 → wx.cell? ⟨gN, j, none⟩ = some (.slice au Kr.length cu) ∧ wx.frozen? ⟨gN, j, none⟩ = false := fun wx I => by
        have q := I.nodes.cells (g := gN) rfl j _ hu
        rw [Addr.add_lit, Nat.zero_add] at q
        refine ⟨q, ?_⟩
        obtain ⟨c, hc⟩ := own_cells I.nodes (g := gN) rfl
        exact cells_free hc j
      have hc2 : ∀ wx rr jj, Cpy w wx B' C n X m (.slice (some ⟨gN, 0, none⟩) X.F.length cp1) rr Bc' bG' cap' x' m.bk m.ck jj 0 0 → wx.cell? ⟨B', 6, none⟩ = some (.slice (some ⟨gN, 0, none⟩) X.F.length cp1) := fun wx rr jj I => by
        have h' := I.head
        simp [World.cell?, h']
      have t1 := (hc1 _ I.out).1
      have t2 := hid1 (hc2 _ _ _ I.out)
      replace hc1 := hid1 hc1
      replace hc2 := hid1 hc2
      replace hKr := hid1 hKr
      replace hum := hid1 hum
      replace hu := hid1 hu
      replace hlen := hid1 hlen
      clear hzu
      go_upto_region 7 with fail
      clear t1
      refine wp_region_held_drew (S := fun wx => wx.cell? ⟨B', 6, none⟩ = some (.slice (some ⟨gN, 0, none⟩) X.F.length cp1)) (by kernel_rfl) t2.out (fun hS1 => ?_)
      refine wpAnyH_take (i := 0) (oi := { dst := some 41, op := Go.Op.move (Go.Operand.tmp 3), type := 23, pos := "model.go:92", after := #[], guard := none }) (v := .pointer (some ⟨B', 0, none⟩)) rfl (by kernel_rfl) (by kernel_rfl) (by kernel_rfl) (fun _ _ _ h => h) (Or.inl ⟨by rfl, fun w hSw => by (try dsimp only at hSw); go_simp⟩) hS1 ?_
      simp only [Act.put, List.setIfInBounds_toArray, List.set_cons_zero, List.set_cons_succ]
      refine wpAnyH_take (i := 1) (oi := { dst := some 42, op := Go.Op.nilCheck (Go.Operand.tmp 41), type := 0, pos := "model.go:92", after := #[{ on := 0, ground := Go.Ground.data }], guard := none }) (v := .pointer (some ⟨B', 0, none⟩)) rfl (by kernel_rfl) (by kernel_rfl) (by kernel_rfl) (fun _ _ _ h => h) (Or.inl ⟨by rfl, fun w hSw => by (try dsimp only at hSw); go_simp⟩) hS1 ?_
      simp only [Act.put, List.setIfInBounds_toArray, List.set_cons_zero, List.set_cons_succ]
      refine wpAnyH_take (i := 2) (oi := { dst := some 43, op := Go.Op.fieldAddr 69 (Go.Operand.tmp 42) 1, type := 0, pos := "model.go:92", after := #[{ on := 1, ground := Go.Ground.data }], guard := none }) (v := .pointer (some ⟨B', 6, none⟩)) rfl (by kernel_rfl) (by kernel_rfl) (by kernel_rfl) (fun _ _ _ h => h) (Or.inl ⟨by rfl, fun w hSw => by (try dsimp only at hSw); go_simp⟩) hS1 ?_
      simp only [Act.put, List.setIfInBounds_toArray, List.set_cons_zero, List.set_cons_succ]
      refine wpAnyH_take (i := 3) (oi := { dst := some 44, op := Go.Op.load 29 (Go.Operand.tmp 43), type := 29, pos := "model.go:92", after := #[{ on := 2, ground := Go.Ground.data }], guard := none }) (v := .slice (some ⟨gN, 0, none⟩) X.F.length cp1) rfl (by kernel_rfl) (by kernel_rfl) (by kernel_rfl) (fun _ _ _ h => h) (Or.inl ⟨by rfl, fun w hSw => by (try dsimp only at hSw); go_simp⟩) hS1 ?_
      simp only [Act.put, List.setIfInBounds_toArray, List.set_cons_zero, List.set_cons_succ]
      refine wpAnyH_take (i := 4) (oi := { dst := some 45, op := Go.Op.move (Go.Operand.tmp 4), type := 3, pos := "model.go:92", after := #[], guard := none }) (v := .int .i64 (j : Nat)) rfl (by kernel_rfl) (by kernel_rfl) (by kernel_rfl) (fun _ _ _ h => h) (Or.inl ⟨by rfl, fun w hSw => by (try dsimp only at hSw); go_simp⟩) hS1 ?_
      simp only [Act.put, List.setIfInBounds_toArray, List.set_cons_zero, List.set_cons_succ]
      refine wpAnyH_take (i := 5) (oi := { dst := some 46, op := Go.Op.move (Go.Operand.tmp 5), type := 57, pos := "model.go:92", after := #[], guard := none }) (v := .slice au Kr.length cu) rfl (by kernel_rfl) (by kernel_rfl) (by kernel_rfl) (fun _ _ _ h => h) (Or.inl ⟨by rfl, fun w hSw => by (try dsimp only at hSw); go_simp⟩) hS1 ?_
      simp only [Act.put, List.setIfInBounds_toArray, List.set_cons_zero, List.set_cons_succ]
      refine wpAnyH_ready (rs := [6]) (by kernel_rfl) (by simp) (AllReadyH.cons (o := { dst := some 47, op := Go.Op.call { callee := Go.Callee.value (Go.Operand.func 47), args := #[Go.Operand.tmp 46], argTypes := #[57] }, type := 57, pos := "model.go:92", after := #[{ on := 5, ground := Go.Ground.data }], guard := none }) rfl (fun K hK => ?_) AllReadyH.nil)
      go_simp
      have bd := (Below.refl wr.heap.size wr).drew
      have I1 := I.out.below bd
      have hz1 := (H8.out _ I1.bel).row j Kr _ hKr.out hum.out
      go_at_call 47
      with_reducible refine (clone_Z hz1 hKl).mono ?_
      rintro r w5 ⟨v, rfl, hzv, hvb, b5⟩
      obtain ⟨av, cv, hav, -, -⟩ := hzv.form
      subst hav
      (try simp only [])
      have I2 := I1.below b5
      replace hvb : ∀ g, (Value.slice av Kr.length cv).ownBlock = some g → wr.heap.size ≤ g := fun g hg => Nat.le_trans bd.size (hvb g hg)
      refine hK.out _ _ (hc2.out _ _ _ I2) (fun hS1 => ?_)
      (try simp only [Act.put, List.setIfInBounds_toArray, List.set_cons_zero, List.set_cons_succ])
      clear hK K hz1 bd b5
      refine wpAnyH_take (i := 7) (oi := { dst := some 48, op := Go.Op.indexAddr 29 (Go.Operand.tmp 44) (Go.Operand.tmp 45), type := 0, pos := "model.go:92", after := #[{ on := 3, ground := Go.Ground.data }, { on := 4, ground := Go.Ground.data }, { on := 0, ground := Go.Ground.phase }, { on := 1, ground := Go.Ground.phase }, { on := 2, ground := Go.Ground.phase }, { on := 3, ground := Go.Ground.phase }, { on := 4, ground := Go.Ground.phase }, { on := 5, ground := Go.Ground.phase }, { on := 6, ground := Go.Ground.phase }], guard := none }) (v := .pointer (some ⟨gN, j, none⟩)) rfl (by kernel_rfl) (by kernel_rfl) (by kernel_rfl) (fun _ _ _ h => h) (Or.inl ⟨by rfl, fun w hSw => by (try dsimp only at hSw); go_simp⟩) hS1 ?_
      simp only [Act.put, List.setIfInBounds_toArray, List.set_cons_zero, List.set_cons_succ]
      refine wpAnyH_ready (rs := [8]) (by kernel_rfl) (by simp) (AllReadyH.cons (o := { dst := none, op := Go.Op.store 57 (Go.Operand.tmp 48) (Go.Operand.tmp 47), type := 0, pos := "model.go:92", after := #[{ on := 7, ground := Go.Ground.data }, { on := 6, ground := Go.Ground.data }, { on := 6, ground := Go.Ground.chain }, { on := 0, ground := Go.Ground.phase }, { on := 1, ground := Go.Ground.phase }, { on := 2, ground := Go.Ground.phase }, { on := 3, ground := Go.Ground.phase }, { on := 4, ground := Go.Ground.phase }, { on := 5, ground := Go.Ground.phase }, { on := 6, ground := Go.Ground.phase }], guard := none }) rfl (fun K hK => ?_) AllReadyH.nil)
      obtain ⟨t1, t3⟩ := hc1.out _ I2
      go_simp
      have I3 := I2.row hl hKr.out hzv (fun g hg => Nat.le_trans I.out.bel.size (hvb g hg)) (fun a u g ha h1 h2 h3 => by
        have := (I.out.rnew a _ u ha (List.getElem?_eq_getElem (by omega)) h1).1.lt h2
        have := hvb g h3
        omega)
      refine hK.out _ _ (hc2.out _ _ _ I3) (fun hS1 => ?_)
      (try simp only [Act.put, List.setIfInBounds_toArray, List.set_cons_zero, List.set_cons_succ])
      clear hK K
      refine wpAnyH_done (by kernel_rfl) ?_ _
      clear hS1 t1 t3 I1 I2 hzv hvb
      replace I3 := hid1 I3
      go_wp2
      go_roundg (X.F.length - (j + 1))
      case measure => exact Nat.lt_of_lt_of_le (Nat.sub_succ_lt_self X.F.length j hl) hg1
      case rel => exact ⟨j + 1, _, congrArg (Value.int .i64) (by have := hF.out; rw [IntWalk.wrap64_in _ (by omega)]; omega), by omega, Nat.le_refl _, I3⟩
    · obtain rfl : j = X.F.length := by omega
      have hlz : ¬ ((X.F.length : Nat) : Int) < ((X.F.length : Nat) : Int) := by omega
      have t7 : wr.cell? ⟨B', 7, none⟩ = some (.slice (some ⟨Bc', 0, none⟩) C.c cap') := by have h' := I.out.head; simp [World.cell?, h']
      go_upto_region 10 with fail
      clear t7 hlz
      replace I := hid1 I.out
      go_loopg [6, 7, 55] C.c (fun g1 _ _ vi wr => ∃ (i : Nat) (bk : Nat → Nat) (ck : Nat → Value), vi = .int .i64 i ∧ i ≤ C.c ∧ C.c - i ≤ g1 ∧ Hid (Cpy w wr B' C n X m (.slice ad1 X.F.length cp1) rows Bc' bG' cap' x' bk ck X.F.length i i))
      case atStart => exact ⟨0, m.bk, m.ck, rfl, Nat.zero_le _, by omega, I⟩
      case round =>
        clear I
        obtain ⟨i, bk, ck, rfl, hi, hgi, I⟩ := hrel
        by_cases hli : i < C.c
        · have hliz : (i : Int) < (C.c : Int) := by omega
          have hzc := (H8.out _ I.out.bel).ms i hli
          obtain ⟨ac, cc, hac, -, -⟩ := hzc.form
          have hcl := I.out.cl
          have t0 : wr.cell? ⟨Bc', i * 3, none⟩ = some (.map (some (m.bk i))) := by
            simp only [World.cell?, hcl]
            show (clC _ _ _ _ _)[i * 3]? = _
            rw [clC_at, if_pos (by omega), if_pos (by omega), show i * 3 / 3 = i by omega, I.out.kold i (Nat.le_refl _)]
          have t1 : wr.cell? ⟨Bc', i * 3 + 1, none⟩ = some (.int .u64 (wkF X i : Nat)) := by
            simp only [World.cell?, hcl]
            show (clC _ _ _ _ _)[i * 3 + 1]? = _
            rw [clC_at, if_pos (by omega), if_neg (by omega), if_pos (by omega), show (i * 3 + 1) / 3 = i by omega]
          have t2 : wr.cell? ⟨Bc', i * 3 + 2, none⟩ = some (.slice ac (cmF X i).length cc) := by
            simp only [World.cell?, hcl]
            show (clC _ _ _ _ _)[i * 3 + 2]? = _
            rw [clC_at, if_pos (by omega), if_neg (by omega), if_neg (by omega), show (i * 3 + 2) / 3 = i by omega, I.out.cold i (Nat.le_refl _), hac]
          clear hcl hzc
          replace hac := hid1 hac
          have hq1 := new_obj wr (.cells #[.map none, .int .u64 0, .slice none 0 0] 72)
          have ba := alloc_below wr (.cells #[.map none, .int .u64 0, .slice none 0 0] 72)
          clear hq1 ba
          have hA := new_obj wr (.cells #[.map (some (m.bk i)), .int .u64 (wkF X i : Nat), .slice ac (cmF X i).length cc] 72)
          have IA := I.out.below (alloc_below wr (.cells #[.map (some (m.bk i)), .int .u64 (wkF X i : Nat), .slice ac (cmF X i).length cc] 72))
          have szA : (wr.alloc (.cells #[.map (some (m.bk i)), .int .u64 (wkF X i : Nat), .slice ac (cmF X i).length cc] 72)).heap.size = wr.heap.size + 1 := by simp
          go_upto_region 11 with fail
          go_wp2_with fail
          clear t0 t1 t2
          generalize World.alloc _ _ = wA at hA IA szA ⊢
          obtain ⟨bA, hbA⟩ : ∃ bA, wr.heap.size = bA := ⟨_, rfl⟩
          rw [hbA] at hA szA
          simp only [hbA]
          have hlow := hid1 fun k (hk : k < i) => hbA ▸ (I.out.knew k hk).1.lt
          have hgl := hid1 (hbA ▸ I.out.gv.lt)
          have hcB := hid1 (show Bc' < bA from hbA ▸ lt_of_block I.out.cl)
          have hwb := hid1 (show w.heap.size ≤ bA from hbA ▸ I.out.bel.size)
          have hcl := hid1 fun (a : Nat) u g (ha : a < X.F.length) (hu : rows[a]? = some u) (hg : u.ownBlock = some g) => show g < bA from hbA ▸ (I.out.rnew a _ u ha (List.getElem?_eq_getElem ha) hu).1.lt hg
          clear I hbA
          replace IA := hid1 IA
          have h7 := hid1 fun (wx : World) bk' ck' i' l' (J : Cpy w wx B' C n X m (.slice ad1 X.F.length cp1) rows Bc' bG' cap' x' bk' ck' X.F.length i' l') => show wx.cell? ⟨B', 7, none⟩ = some (.slice (some ⟨Bc', 0, none⟩) C.c cap') from by have h' := J.head; simp [World.cell?, h']
          have hcf := hid1 fun (wx : World) bk' ck' i' l' (J : Cpy w wx B' C n X m (.slice ad1 X.F.length cp1) rows Bc' bG' cap' x' bk' ck' X.F.length i' l') (q : Nat) (hq : q < 3 * C.c) => show (∃ u, wx.cell? ⟨Bc', q, none⟩ = some u) ∧ wx.frozen? ⟨Bc', q, none⟩ = false from ⟨by
            have h' := J.cl
            simp only [World.cell?, h']
            show ∃ u, (clC _ _ _ _ _)[q]? = some u
            rw [clC_at, if_pos hq]
            exact ⟨_, rfl⟩, cells_free J.cl q⟩
          have hAc := hid1 fun (wx : World) (hx : wx.heap[bA]? = some (.cells #[.map (some (m.bk i)), .int .u64 (wkF X i : Nat), .slice ac (cmF X i).length cc] 72 (0, 0))) => show wx.cell? ⟨bA, 0, none⟩ = some (.map (some (m.bk i))) ∧ wx.cell? ⟨bA, 2, none⟩ = some (.slice ac (cmF X i).length cc) from by constructor <;> simp [World.cell?, hx]
          replace hA := hid1 hA
          have bd := (Below.refl wA.heap.size wA).drew
          have I1 := IA.out.below bd
          have hA1 := (bd.block _ (lt_of_block hA.out)).trans hA.out
          refine wp_region_held_drew (S := fun wx => wx.cell? ⟨B', 7, none⟩ = some (.slice (some ⟨Bc', 0, none⟩) C.c cap') ∧ wx.cell? ⟨bA, 0, none⟩ = some (.map (some (m.bk i)))) (by kernel_rfl) ⟨h7.out _ _ _ _ _ I1, (hAc.out _ hA1).1⟩ (fun hS1 => ?_)
          refine wpAnyH_take (i := 0) (oi := { dst := some 60, op := Go.Op.move (Go.Operand.tmp 3), type := 23, pos := "model.go:95", after := #[], guard := none }) (v := .pointer (some ⟨B', 0, none⟩)) rfl (by kernel_rfl) (by kernel_rfl) (by kernel_rfl) (fun _ _ _ h => h) (Or.inl ⟨by rfl, fun w hSw => by (try dsimp only at hSw); go_simp⟩) hS1 ?_
          simp only [Act.put, List.setIfInBounds_toArray, List.set_cons_zero, List.set_cons_succ]
          refine wpAnyH_take (i := 1) (oi := { dst := some 61, op := Go.Op.nilCheck (Go.Operand.tmp 60), type := 0, pos := "model.go:95", after := #[{ on := 0, ground := Go.Ground.data }], guard := none }) (v := .pointer (some ⟨B', 0, none⟩)) rfl (by kernel_rfl) (by kernel_rfl) (by kernel_rfl) (fun _ _ _ h => h) (Or.inl ⟨by rfl, fun w hSw => by (try dsimp only at hSw); go_simp⟩) hS1 ?_
          simp only [Act.put, List.setIfInBounds_toArray, List.set_cons_zero, List.set_cons_succ]
          refine wpAnyH_take (i := 2) (oi := { dst := some 62, op := Go.Op.fieldAddr 69 (Go.Operand.tmp 61) 2, type := 0, pos := "model.go:95", after := #[{ on := 1, ground := Go.Ground.data }], guard := none }) (v := .pointer (some ⟨B', 7, none⟩)) rfl (by kernel_rfl) (by kernel_rfl) (by kernel_rfl) (fun _ _ _ h => h) (Or.inl ⟨by rfl, fun w hSw => by (try dsimp only at hSw); go_simp⟩) hS1 ?_
          simp only [Act.put, List.setIfInBounds_toArray, List.set_cons_zero, List.set_cons_succ]
          refine wpAnyH_take (i := 3) (oi := { dst := some 63, op := Go.Op.load 66 (Go.Operand.tmp 62), type := 66, pos := "model.go:95", after := #[{ on := 2, ground := Go.Ground.data }], guard := none }) (v := .slice (some ⟨Bc', 0, none⟩) C.c cap') rfl (by kernel_rfl) (by kernel_rfl) (by kernel_rfl) (fun _ _ _ h => h) (Or.inl ⟨by rfl, fun w hSw => by (try dsimp only at hSw); go_simp⟩) hS1 ?_
          simp only [Act.put, List.setIfInBounds_toArray, List.set_cons_zero, List.set_cons_succ]
          refine wpAnyH_take (i := 4) (oi := { dst := some 64, op := Go.Op.move (Go.Operand.tmp 6), type := 3, pos := "model.go:95", after := #[], guard := none }) (v := .int .i64 (i : Nat)) rfl (by kernel_rfl) (by kernel_rfl) (by kernel_rfl) (fun _ _ _ h => h) (Or.inl ⟨by rfl, fun w hSw => by (try dsimp only at hSw); go_simp⟩) hS1 ?_
          simp only [Act.put, List.setIfInBounds_toArray, List.set_cons_zero, List.set_cons_succ]
          refine wpAnyH_take (i := 5) (oi := { dst := some 65, op := Go.Op.fieldAddr 72 (Go.Operand.tmp 7) 0, type := 0, pos := "model.go:95", after := #[], guard := none }) (v := .pointer (some ⟨bA, 0, none⟩)) rfl (by kernel_rfl) (by kernel_rfl) (by kernel_rfl) (fun _ _ _ h => h) (Or.inl ⟨by rfl, fun w hSw => by (try dsimp only at hSw); go_simp⟩) hS1 ?_
          simp only [Act.put, List.setIfInBounds_toArray, List.set_cons_zero, List.set_cons_succ]
          refine wpAnyH_take (i := 6) (oi := { dst := some 66, op := Go.Op.load 70 (Go.Operand.tmp 65), type := 70, pos := "model.go:95", after := #[{ on := 5, ground := Go.Ground.data }], guard := none }) (v := .map (some (m.bk i))) rfl (by kernel_rfl) (by kernel_rfl) (by kernel_rfl) (fun _ _ _ h => h) (Or.inl ⟨by rfl, fun w hSw => by (try dsimp only at hSw); go_simp⟩) hS1 ?_
          simp only [Act.put, List.setIfInBounds_toArray, List.set_cons_zero, List.set_cons_succ]
          refine wpAnyH_ready (rs := [7]) (by kernel_rfl) (by simp) (AllReadyH.cons (o := { dst := some 67, op := Go.Op.call { callee := Go.Callee.value (Go.Operand.func 48), args := #[Go.Operand.tmp 66], argTypes := #[70] }, type := 70, pos := "model.go:95", after := #[{ on := 6, ground := Go.Ground.data }], guard := none }) rfl (fun K hK => ?_) AllReadyH.nil)
          go_simp
          have hh1 := (H8.out _ I1.bel).hs i hli
          go_at_call 48
          with_reducible refine (clone_held hh1).mono ?_
          rintro r w5 ⟨rfl, hh5, o5, rfl⟩
          (try simp only [])
          have I2 := I1.below (alloc_below _ o5)
          have hA2 := ((alloc_below _ o5).block _ (lt_of_block hA1)).trans hA1
          have szd := bd.size
          obtain ⟨bH, hbH⟩ : ∃ bH, wA.drew.heap.size = bH := ⟨_, rfl⟩
          rw [hbH] at hh5 szd
          refine hK.out _ _ ⟨h7.out _ _ _ _ _ I2, (hAc.out _ hA2).1⟩ (fun hS1 => ?_)
          (try simp only [Act.put, List.setIfInBounds_toArray, List.set_cons_zero, List.set_cons_succ])
          (try simp only [hbH])
          clear hK K hh1 I1 hA1 bd hbH
          generalize World.alloc _ _ = w5 at *
          refine wpAnyH_take (i := 8) (oi := { dst := some 68, op := Go.Op.indexAddr 66 (Go.Operand.tmp 63) (Go.Operand.tmp 64), type := 0, pos := "model.go:95", after := #[{ on := 3, ground := Go.Ground.data }, { on := 4, ground := Go.Ground.data }, { on := 0, ground := Go.Ground.phase }, { on := 1, ground := Go.Ground.phase }, { on := 2, ground := Go.Ground.phase }, { on := 3, ground := Go.Ground.phase }, { on := 4, ground := Go.Ground.phase }, { on := 5, ground := Go.Ground.phase }, { on := 6, ground := Go.Ground.phase }, { on := 7, ground := Go.Ground.phase }], guard := none }) (v := .pointer (some ⟨Bc', i * 3, none⟩)) rfl (by kernel_rfl) (by kernel_rfl) (by kernel_rfl) (fun _ _ _ h => h) (Or.inl ⟨by rfl, fun w hSw => by (try dsimp only at hSw); go_simp⟩) hS1 ?_
          simp only [Act.put, List.setIfInBounds_toArray, List.set_cons_zero, List.set_cons_succ]
          refine wpAnyH_take (i := 9) (oi := { dst := some 69, op := Go.Op.fieldAddr 72 (Go.Operand.tmp 68) 0, type := 0, pos := "model.go:95", after := #[{ on := 8, ground := Go.Ground.data }, { on := 0, ground := Go.Ground.phase }, { on := 1, ground := Go.Ground.phase }, { on := 2, ground := Go.Ground.phase }, { on := 3, ground := Go.Ground.phase }, { on := 4, ground := Go.Ground.phase }, { on := 5, ground := Go.Ground.phase }, { on := 6, ground := Go.Ground.phase }, { on := 7, ground := Go.Ground.phase }], guard := none }) (v := .pointer (some ⟨Bc', i * 3, none⟩)) rfl (by kernel_rfl) (by kernel_rfl) (by kernel_rfl) (fun _ _ _ h => h) (Or.inl ⟨by rfl, fun w hSw => by (try dsimp only at hSw); go_simp⟩) hS1 ?_
          simp only [Act.put, List.setIfInBounds_toArray, List.set_cons_zero, List.set_cons_succ]
          refine wpAnyH_ready (rs := [10]) (by kernel_rfl) (by simp) (AllReadyH.cons (o := { dst := none, op := Go.Op.store 70 (Go.Operand.tmp 69) (Go.Operand.tmp 67), type := 0, pos := "model.go:95", after := #[{ on := 9, ground := Go.Ground.data }, { on := 7, ground := Go.Ground.data }, { on := 7, ground := Go.Ground.chain }, { on := 0, ground := Go.Ground.phase }, { on := 1, ground := Go.Ground.phase }, { on := 2, ground := Go.Ground.phase }, { on := 3, ground := Go.Ground.phase }, { on := 4, ground := Go.Ground.phase }, { on := 5, ground := Go.Ground.phase }, { on := 6, ground := Go.Ground.phase }, { on := 7, ground := Go.Ground.phase }], guard := none }) rfl (fun K hK => ?_) AllReadyH.nil)
          obtain ⟨⟨uo, t1⟩, t3⟩ := hcf.out _ _ _ _ _ I2 (i * 3) (by omega)
          go_simp
          have I3 := I2.map hli hh5 (by have := hwb.out; omega) (fun k hk e => by have := hlow.out k hk; omega) (fun e => by have := hgl.out; omega)
          have hA3 := (Below.heap_setCell w5 ⟨Bc', i * 3, none⟩ (.map (some bH)) bA (fun e => by have := hcB.out; have e' : bA = Bc' := e; omega)).trans hA2
          refine hK.out _ _ ⟨h7.out _ _ _ _ _ I3, (hAc.out _ hA3).1⟩ (fun hS1 => ?_)
          (try simp only [Act.put, List.setIfInBounds_toArray, List.set_cons_zero, List.set_cons_succ])
          clear hK K
          refine wpAnyH_done (by kernel_rfl) ?_ _
          clear hS1 t1 t3 I2 hA2 hh5
          generalize World.setCell _ _ _ = w6 at *
          go_upto_region 13 with fail
          have hA4 := (Below.refl w6.heap.size w6).drew.block _ (lt_of_block hA3) |>.trans hA3
          have I4 := I3.below (Below.refl w6.heap.size w6).drew
          clear I3 hA3
          refine wp_region_held_drew (S := fun wx => wx.cell? ⟨B', 7, none⟩ = some (.slice (some ⟨Bc', 0, none⟩) C.c cap') ∧ wx.cell? ⟨bA, 2, none⟩ = some (.slice ac (cmF X i).length cc)) (by kernel_rfl) ⟨h7.out _ _ _ _ _ I4, (hAc.out _ hA4).2⟩ (fun hS1 => ?_)
          refine wpAnyH_take (i := 0) (oi := { dst := some 70, op := Go.Op.move (Go.Operand.tmp 3), type := 23, pos := "model.go:96", after := #[], guard := none }) (v := .pointer (some ⟨B', 0, none⟩)) rfl (by kernel_rfl) (by kernel_rfl) (by kernel_rfl) (fun _ _ _ h => h) (Or.inl ⟨by rfl, fun w hSw => by (try dsimp only at hSw); go_simp⟩) hS1 ?_
          simp only [Act.put, List.setIfInBounds_toArray, List.set_cons_zero, List.set_cons_succ]
          refine wpAnyH_take (i := 1) (oi := { dst := some 71, op := Go.Op.nilCheck (Go.Operand.tmp 70), type := 0, pos := "model.go:96", after := #[{ on := 0, ground := Go.Ground.data }], guard := none }) (v := .pointer (some ⟨B', 0, none⟩)) rfl (by kernel_rfl) (by kernel_rfl) (by kernel_rfl) (fun _ _ _ h => h) (Or.inl ⟨by rfl, fun w hSw => by (try dsimp only at hSw); go_simp⟩) hS1 ?_
          simp only [Act.put, List.setIfInBounds_toArray, List.set_cons_zero, List.set_cons_succ]
          refine wpAnyH_take (i := 2) (oi := { dst := some 72, op := Go.Op.fieldAddr 69 (Go.Operand.tmp 71) 2, type := 0, pos := "model.go:96", after := #[{ on := 1, ground := Go.Ground.data }], guard := none }) (v := .pointer (some ⟨B', 7, none⟩)) rfl (by kernel_rfl) (by kernel_rfl) (by kernel_rfl) (fun _ _ _ h => h) (Or.inl ⟨by rfl, fun w hSw => by (try dsimp only at hSw); go_simp⟩) hS1 ?_
          simp only [Act.put, List.setIfInBounds_toArray, List.set_cons_zero, List.set_cons_succ]
          refine wpAnyH_take (i := 3) (oi := { dst := some 73, op := Go.Op.load 66 (Go.Operand.tmp 72), type := 66, pos := "model.go:96", after := #[{ on := 2, ground := Go.Ground.data }], guard := none }) (v := .slice (some ⟨Bc', 0, none⟩) C.c cap') rfl (by kernel_rfl) (by kernel_rfl) (by kernel_rfl) (fun _ _ _ h => h) (Or.inl ⟨by rfl, fun w hSw => by (try dsimp only at hSw); go_simp⟩) hS1 ?_
          simp only [Act.put, List.setIfInBounds_toArray, List.set_cons_zero, List.set_cons_succ]
          refine wpAnyH_take (i := 4) (oi := { dst := some 74, op := Go.Op.move (Go.Operand.tmp 6), type := 3, pos := "model.go:96", after := #[], guard := none }) (v := .int .i64 (i : Nat)) rfl (by kernel_rfl) (by kernel_rfl) (by kernel_rfl) (fun _ _ _ h => h) (Or.inl ⟨by rfl, fun w hSw => by (try dsimp only at hSw); go_simp⟩) hS1 ?_
          simp only [Act.put, List.setIfInBounds_toArray, List.set_cons_zero, List.set_cons_succ]
          refine wpAnyH_take (i := 5) (oi := { dst := some 75, op := Go.Op.fieldAddr 72 (Go.Operand.tmp 7) 2, type := 0, pos := "model.go:96", after := #[], guard := none }) (v := .pointer (some ⟨bA, 2, none⟩)) rfl (by kernel_rfl) (by kernel_rfl) (by kernel_rfl) (fun _ _ _ h => h) (Or.inl ⟨by rfl, fun w hSw => by (try dsimp only at hSw); go_simp⟩) hS1 ?_
          simp only [Act.put, List.setIfInBounds_toArray, List.set_cons_zero, List.set_cons_succ]
          refine wpAnyH_take (i := 6) (oi := { dst := some 76, op := Go.Op.load 57 (Go.Operand.tmp 75), type := 57, pos := "model.go:96", after := #[{ on := 5, ground := Go.Ground.data }], guard := none }) (v := .slice ac (cmF X i).length cc) rfl (by kernel_rfl) (by kernel_rfl) (by kernel_rfl) (fun _ _ _ h => h) (Or.inl ⟨by rfl, fun w hSw => by (try dsimp only at hSw); go_simp⟩) hS1 ?_
          simp only [Act.put, List.setIfInBounds_toArray, List.set_cons_zero, List.set_cons_succ]
          refine wpAnyH_ready (rs := [7]) (by kernel_rfl) (by simp) (AllReadyH.cons (o := { dst := some 77, op := Go.Op.call { callee := Go.Callee.value (Go.Operand.func 47), args := #[Go.Operand.tmp 76], argTypes := #[57] }, type := 57, pos := "model.go:96", after := #[{ on := 6, ground := Go.Ground.data }], guard := none }) rfl (fun K hK => ?_) AllReadyH.nil)
          go_simp
          have hz5 := (H8.out _ I4.bel).ms i hli
          rw [hac.out] at hz5
          have hcl5 : (cmF X i).length ≤ 1000000 := Nat.le_trans (iv.out.com _ (mem_cm iv.out (by rw [(H8.out _ I4.bel).nc]; exact hli))) (by omega)
          go_at_call 47
          with_reducible refine (clone_Z hz5 hcl5).mono ?_
          rintro r w7 ⟨v, rfl, hzv, hvb, b7⟩
          obtain ⟨av, cv, hav, -, -⟩ := hzv.form
          subst hav
          (try simp only [])
          have I5 := I4.below b7
          have hA5 := (b7.block _ (lt_of_block hA4)).trans hA4
          have hvl : ∀ g, (Value.slice av (cmF X i).length cv).ownBlock = some g → bA < g := fun g hg => Nat.lt_of_lt_of_le (lt_of_block hA4) (hvb g hg)
          refine hK.out _ _ ⟨h7.out _ _ _ _ _ I5, (hAc.out _ hA5).2⟩ (fun hS1 => ?_)
          (try simp only [Act.put, List.setIfInBounds_toArray, List.set_cons_zero, List.set_cons_succ])
          clear hK K hz5 hcl5 I4 hA4 hvb b7
          refine wpAnyH_take (i := 8) (oi := { dst := some 78, op := Go.Op.indexAddr 66 (Go.Operand.tmp 73) (Go.Operand.tmp 74), type := 0, pos := "model.go:96", after := #[{ on := 3, ground := Go.Ground.data }, { on := 4, ground := Go.Ground.data }, { on := 0, ground := Go.Ground.phase }, { on := 1, ground := Go.Ground.phase }, { on := 2, ground := Go.Ground.phase }, { on := 3, ground := Go.Ground.phase }, { on := 4, ground := Go.Ground.phase }, { on := 5, ground := Go.Ground.phase }, { on := 6, ground := Go.Ground.phase }, { on := 7, ground := Go.Ground.phase }], guard := none }) (v := .pointer (some ⟨Bc', i * 3, none⟩)) rfl (by kernel_rfl) (by kernel_rfl) (by kernel_rfl) (fun _ _ _ h => h) (Or.inl ⟨by rfl, fun w hSw => by (try dsimp only at hSw); go_simp⟩) hS1 ?_
          simp only [Act.put, List.setIfInBounds_toArray, List.set_cons_zero, List.set_cons_succ]
          refine wpAnyH_take (i := 9) (oi := { dst := some 79, op := Go.Op.fieldAddr 72 (Go.Operand.tmp 78) 2, type := 0, pos := "model.go:96", after := #[{ on := 8, ground := Go.Ground.data }, { on := 0, ground := Go.Ground.phase }, { on := 1, ground := Go.Ground.phase }, { on := 2, ground := Go.Ground.phase }, { on := 3, ground := Go.Ground.phase }, { on := 4, ground := Go.Ground.phase }, { on := 5, ground := Go.Ground.phase }, { on := 6, ground := Go.Ground.phase }, { on := 7, ground := Go.Ground.phase }], guard := none }) (v := .pointer (some ⟨Bc', i * 3 + 2, none⟩)) rfl (by kernel_rfl) (by kernel_rfl) (by kernel_rfl) (fun _ _ _ h => h) (Or.inl ⟨by rfl, fun w hSw => by (try dsimp only at hSw); go_simp⟩) hS1 ?_
          simp only [Act.put, List.setIfInBounds_toArray, List.set_cons_zero, List.set_cons_succ]
          refine wpAnyH_ready (rs := [10]) (by kernel_rfl) (by simp) (AllReadyH.cons (o := { dst := none, op := Go.Op.store 57 (Go.Operand.tmp 79) (Go.Operand.tmp 77), type := 0, pos := "model.go:96", after := #[{ on := 9, ground := Go.Ground.data }, { on := 7, ground := Go.Ground.data }, { on := 7, ground := Go.Ground.chain }, { on := 0, ground := Go.Ground.phase }, { on := 1, ground := Go.Ground.phase }, { on := 2, ground := Go.Ground.phase }, { on := 3, ground := Go.Ground.phase }, { on := 4, ground := Go.Ground.phase }, { on := 5, ground := Go.Ground.phase }, { on := 6, ground := Go.Ground.phase }, { on := 7, ground := Go.Ground.phase }], guard := none }) rfl (fun K hK => ?_) AllReadyH.nil)
          obtain ⟨⟨uo, t1⟩, t3⟩ := hcf.out _ _ _ _ _ I5 (i * 3 + 2) (by omega)
          go_simp
          have I6 := I5.com hli hzv (fun g hg => by have := hwb.out; have := hvl g hg; omega) (fun a u g ha hu hg e => by have := hcl.out a u g ha hu hg; have := hvl g e; omega)
          have hA6 := (Below.heap_setCell w7 ⟨Bc', i * 3 + 2, none⟩ (.slice av (cmF X i).length cv) bA (fun e => by have := hcB.out; have e' : bA = Bc' := e; omega)).trans hA5
          refine hK.out _ _ ⟨h7.out _ _ _ _ _ I6, (hAc.out _ hA6).2⟩ (fun hS1 => ?_)
          (try simp only [Act.put, List.setIfInBounds_toArray, List.set_cons_zero, List.set_cons_succ])
          clear hK K
          refine wpAnyH_done (by kernel_rfl) ?_ _
          clear hS1 t1 t3 I5 hA5 hA6 hzv hvl
          replace I6 := hid1 I6
          go_wp2
          go_roundg (C.c - (i + 1))
          case measure => omega
          case rel => exact ⟨i + 1, _, _, congrArg (Value.int .i64) (by omega), by omega, Nat.le_refl _, I6⟩
        · obtain rfl : i = C.c := by omega
          have hliz : ¬ ((C.c : Nat) : Int) < ((C.c : Nat) : Int) := by omega
          go_wp2
          go_ret
          exact ⟨B', rfl, hB4', I.out.whole (H8.out _ (Below.refl _ _)).nc, I.out.bel⟩
end Go.Proofs.Ytcccmmhpingmnaa
