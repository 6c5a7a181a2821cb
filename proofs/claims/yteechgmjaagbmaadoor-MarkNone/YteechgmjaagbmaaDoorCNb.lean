/- mark's names: the closure that appends. -/
import Derived.Test.YteechgmjaagbmaaDoorCNa
import Derived.Deep.RegionHeld
namespace Go.Proofs.YteechgmjaagbmaaDoor
open Go.RowKit
open Mm (IsMem MS touched Only IsWords)
open Hh (WT okW wordOf IsHd)

set_option maxHeartbeats 8000000 in
theorem name1 {w w0 : World} {K : Cf} (hK : K.Ok) {bl bc bw bs b off cap s : Nat} {X : List Nat} {v : Value} {F : List Int} (is : Nv w w0 K bl bc bw bs b off cap s v v F) (hR : RdW w b off X) (hX : X.length = K.N) (hlt : ∀ i, X.getD i 0 < 18446744073709551616) (hs : s < K.S) {i : Nat} (hi : i < K.B) (hF : F.length < 900000) :
    Calls Tryd.prog 82 #[.int .i64 (i : Nat), .pointer (some ⟨bl, 0, none⟩), .pointer (some ⟨bc, 0, none⟩), .pointer (some ⟨bw, 0, none⟩), .pointer (some ⟨bs, 0, none⟩)] w0 fun r w' => r = .returned (.tuple #[]) ∧ ∃ v', Nv w w' K bl bc bw bs b off cap s v' v' (F ++ [K.nm (X.getD (K.bd s i) 0)]) := by
  have hL := K.bd_lt hs hi
  have hN := hK.N_b
  have hW := hlt (K.bd s i)
  have hRL : ∀ w', Below w.heap.size w w' → w'.cell? ⟨b, off + K.bd s i, none⟩ = some (.int .u64 (X.getD (K.bd s i) 0 : Nat)) := fun w' h => (hR.below h).2 (K.bd s i) (by omega)
  have c41 := fun w => body_at hK hs hi w
  have c12 := fun w => mnamed_any hK hW w
  have HC := hid1 (fun (wq : World) (u v : Value) (F : List Int) (h : Nv w wq K bl bc bw bs b off cap s u v F) => h.rd hRL)
  have hL1 : ((K.bd s i : Nat) : Int) < (K.N : Int) := by omega
  have hL0 : (0 : Int) ≤ ((K.bd s i : Nat) : Int) := by omega
  unfold Cf.cs at *
  generalize K.bd s i = L at *
  generalize X.getD L 0 = W at *
  generalize K.nm W = y at *
  obtain ⟨ad, cp, rfl, _⟩ := is.own.form
  clear hR hX hlt hK hs hi hW hRL
  go_enter Tryd.func82, Tryd.ntmps82
  go_upto_region 0 with fail
  replace is := is.below (Below.refl _ _).drew
  have hS0 := HC.out _ _ _ _ is
  refine wp_region_held_drew (S := fun wr => wr.cell? ⟨bc, 0, none⟩ = some (.int .i64 (K.S : Nat)) ∧ wr.cell? ⟨bc, 1, none⟩ = some (.int .i64 K.a) ∧ wr.cell? ⟨bc, 2, none⟩ = some (.int .i64 (K.C : Nat)) ∧ wr.cell? ⟨bc, 3, none⟩ = some (.int .i64 (K.D : Nat)) ∧ wr.cell? ⟨bc, 4, none⟩ = some (.int .i64 K.g) ∧ wr.cell? ⟨bc, 5, none⟩ = some (.int .i64 K.k) ∧ wr.cell? ⟨bw, 0, none⟩ = some (.slice (some ⟨b, off, none⟩) K.N cap) ∧ wr.cell? ⟨bs, 0, none⟩ = some (.int .i64 (s : Nat)) ∧ wr.cell? ⟨b, off + L, none⟩ = some (.int .u64 (W : Nat))) (by kernel_rfl) hS0 (fun hS1 => ?_)
  clear hS0
  generalize w0.drew = w0 at *
  refine wpAnyH_take (i := 1) (oi := { dst := some 7, op := Go.Op.load 23 (Go.Operand.tmp 2), type := 23, pos := "found.go:47", after := #[], guard := none }) (v := .agg #[.int .i64 (K.S : Nat), .int .i64 K.a, .int .i64 (K.C : Nat), .int .i64 (K.D : Nat), .int .i64 K.g, .int .i64 K.k]) rfl (by kernel_rfl) (by kernel_rfl) (by kernel_rfl) (fun _ _ _ h => h) (Or.inl ⟨by rfl, fun w hSw => by (try dsimp only at hSw); go_simp⟩) hS1 ?_
  simp only [Act.put, List.setIfInBounds_toArray, List.set_cons_zero, List.set_cons_succ]
  refine wpAnyH_take (i := 2) (oi := { dst := some 8, op := Go.Op.load 43 (Go.Operand.tmp 3), type := 43, pos := "found.go:47", after := #[], guard := none }) (v := .slice (some ⟨b, off, none⟩) K.N cap) rfl (by kernel_rfl) (by kernel_rfl) (by kernel_rfl) (fun _ _ _ h => h) (Or.inl ⟨by rfl, fun w hSw => by (try dsimp only at hSw); go_simp⟩) hS1 ?_
  simp only [Act.put, List.setIfInBounds_toArray, List.set_cons_zero, List.set_cons_succ]
  refine wpAnyH_take (i := 3) (oi := { dst := some 9, op := Go.Op.load 23 (Go.Operand.tmp 2), type := 23, pos := "found.go:47", after := #[], guard := none }) (v := .agg #[.int .i64 (K.S : Nat), .int .i64 K.a, .int .i64 (K.C : Nat), .int .i64 (K.D : Nat), .int .i64 K.g, .int .i64 K.k]) rfl (by kernel_rfl) (by kernel_rfl) (by kernel_rfl) (fun _ _ _ h => h) (Or.inl ⟨by rfl, fun w hSw => by (try dsimp only at hSw); go_simp⟩) hS1 ?_
  simp only [Act.put, List.setIfInBounds_toArray, List.set_cons_zero, List.set_cons_succ]
  refine wpAnyH_take (i := 4) (oi := { dst := some 10, op := Go.Op.load 3 (Go.Operand.tmp 4), type := 3, pos := "found.go:47", after := #[], guard := none }) (v := .int .i64 (s : Nat)) rfl (by kernel_rfl) (by kernel_rfl) (by kernel_rfl) (fun _ _ _ h => h) (Or.inl ⟨by rfl, fun w hSw => by (try dsimp only at hSw); go_simp⟩) hS1 ?_
  simp only [Act.put, List.setIfInBounds_toArray, List.set_cons_zero, List.set_cons_succ]
  refine wpAnyH_take (i := 5) (oi := { dst := some 11, op := Go.Op.move (Go.Operand.tmp 0), type := 3, pos := "found.go:47", after := #[], guard := none }) (v := .int .i64 (i : Nat)) rfl (by kernel_rfl) (by kernel_rfl) (by kernel_rfl) (fun _ _ _ h => h) (Or.inl ⟨by rfl, fun w hSw => by (try dsimp only at hSw); go_simp⟩) hS1 ?_
  simp only [Act.put, List.setIfInBounds_toArray, List.set_cons_zero, List.set_cons_succ]
  refine wpAnyH_ready (rs := [0, 6]) (by kernel_rfl) (by simp) (AllReadyH.cons (o := { dst := some 6, op := Go.Op.load 77 (Go.Operand.tmp 1), type := 77, pos := "found.go:47", after := #[], guard := none }) rfl (fun K hK => ?_) (AllReadyH.cons (o := { dst := some 12, op := Go.Op.call { callee := Go.Callee.value (Go.Operand.func 41), args := #[Go.Operand.tmp 9, Go.Operand.tmp 10, Go.Operand.tmp 11], argTypes := #[23, 3, 3] }, type := 3, pos := "found.go:47", after := #[{ on := 3, ground := Go.Ground.data }, { on := 4, ground := Go.Ground.data }, { on := 5, ground := Go.Ground.data }], guard := none }) rfl (fun K hK => ?_) AllReadyH.nil))
  · have l0 := is.l.1
    go_simp
    refine hK.out _ _ (HC.out _ _ _ _ is) (fun hS1 => ?_)
    (try simp only [Act.put, List.setIfInBounds_toArray, List.set_cons_zero, List.set_cons_succ])
    clear hK K l0
    refine wpAnyH_ready (rs := [6]) (by kernel_rfl) (by simp) (AllReadyH.cons (o := { dst := some 12, op := Go.Op.call { callee := Go.Callee.value (Go.Operand.func 41), args := #[Go.Operand.tmp 9, Go.Operand.tmp 10, Go.Operand.tmp 11], argTypes := #[23, 3, 3] }, type := 3, pos := "found.go:47", after := #[{ on := 3, ground := Go.Ground.data }, { on := 4, ground := Go.Ground.data }, { on := 5, ground := Go.Ground.data }], guard := none }) rfl (fun K hK => ?_) AllReadyH.nil)
    go_simp
    go_at_call 41
    with_reducible refine (c41 _).mono ?_
    rintro e w1 ⟨rfl, b1⟩
    (try simp only [])
    replace is := is.below b1
    clear b1
    refine hK.out _ _ (HC.out _ _ _ _ is) (fun hS1 => ?_)
    (try simp only [Act.put, List.setIfInBounds_toArray, List.set_cons_zero, List.set_cons_succ])
    clear hK K
    refine wpAnyH_take (i := 7) (oi := { dst := some 13, op := Go.Op.indexAddr 43 (Go.Operand.tmp 8) (Go.Operand.tmp 12), type := 0, pos := "found.go:47", after := #[{ on := 2, ground := Go.Ground.data }, { on := 6, ground := Go.Ground.data }], guard := none }) (v := .pointer (some ⟨b, off + L, none⟩)) rfl (by kernel_rfl) (by kernel_rfl) (by kernel_rfl) (fun _ _ _ h => h) (Or.inl ⟨by rfl, fun w hSw => by (try dsimp only at hSw); go_simp⟩) hS1 ?_
    simp only [Act.put, List.setIfInBounds_toArray, List.set_cons_zero, List.set_cons_succ]
    refine wpAnyH_take (i := 8) (oi := { dst := some 14, op := Go.Op.load 24 (Go.Operand.tmp 13), type := 24, pos := "found.go:47", after := #[{ on := 7, ground := Go.Ground.data }], guard := none }) (v := .int .u64 (W : Nat)) rfl (by kernel_rfl) (by kernel_rfl) (by kernel_rfl) (fun _ _ _ h => h) (Or.inl ⟨by rfl, fun w hSw => by (try dsimp only at hSw); go_simp⟩) hS1 ?_
    simp only [Act.put, List.setIfInBounds_toArray, List.set_cons_zero, List.set_cons_succ]
    refine wpAnyH_ready (rs := [9]) (by kernel_rfl) (by simp) (AllReadyH.cons (o := { dst := some 15, op := Go.Op.call { callee := Go.Callee.value (Go.Operand.func 12), args := #[Go.Operand.tmp 7, Go.Operand.tmp 14], argTypes := #[23, 24] }, type := 3, pos := "found.go:47", after := #[{ on := 1, ground := Go.Ground.data }, { on := 8, ground := Go.Ground.data }, { on := 6, ground := Go.Ground.chain }], guard := none }) rfl (fun K hK => ?_) AllReadyH.nil)
    go_simp
    go_at_call 12
    with_reducible refine (c12 _).mono ?_
    rintro e w2 ⟨rfl, b1⟩
    (try simp only [])
    replace is := is.below b1
    clear b1
    refine hK.out _ _ (HC.out _ _ _ _ is) (fun hS1 => ?_)
    (try simp only [Act.put, List.setIfInBounds_toArray, List.set_cons_zero, List.set_cons_succ])
    clear hK K
    refine wpAnyH_ready (rs := [10]) (by kernel_rfl) (by simp) (AllReadyH.cons (o := { dst := some 16, op := Go.Op.buildSlice 77 1 #[(0, Go.Operand.tmp 15)], type := 77, pos := "found.go:47", after := #[{ on := 9, ground := Go.Ground.data }], guard := none }) rfl (fun K hK => ?_) AllReadyH.nil)
    go_simp
    have hnew := hid1 (one_new w2 y 3)
    replace is := is.below (alloc_below _ (.cells #[.int .i64 y] 3))
    refine hK.out _ _ (HC.out _ _ _ _ is) (fun hS1 => ?_)
    (try simp only [Act.put, List.setIfInBounds_toArray, List.set_cons_zero, List.set_cons_succ])
    clear hK K
    generalize w2.heap.size = R at hnew ⊢
    generalize w2.alloc (.cells #[.int .i64 y] 3) = wA at *
    refine wpAnyH_ready (rs := [11]) (by kernel_rfl) (by simp) (AllReadyH.cons (o := { dst := some 17, op := Go.Op.call { callee := Go.Callee.builtin Go.Builtin.append, args := #[Go.Operand.tmp 6, Go.Operand.tmp 16], argTypes := #[77, 77] }, type := 77, pos := "found.go:47", after := #[{ on := 0, ground := Go.Ground.data }, { on := 10, ground := Go.Ground.data }, { on := 9, ground := Go.Ground.chain }], guard := none }) rfl (fun K hK => ?_) AllReadyH.nil)
    refine step_append_ints (by rfl) _ _ (by rfl) _ F [y] (by rfl) is.own ⟨R, 0, none⟩ 1 1 (by rfl) rfl (by simp) hnew.out (by simp; omega) ?_
    intro v' w8 hI hg hp
    replace is := is.grow hI hg hp
    clear hI hg hp hnew
    obtain ⟨ad', cp', rfl, _⟩ := is.own.form
    generalize (F ++ [y]).length = q' at *
    refine hK.out _ _ (HC.out _ _ _ _ is) (fun hS1 => ?_)
    (try simp only [Act.put, List.setIfInBounds_toArray, List.set_cons_zero, List.set_cons_succ])
    clear hK K
    refine wpAnyH_ready (rs := [12]) (by kernel_rfl) (by simp) (AllReadyH.cons (o := { dst := none, op := Go.Op.store 77 (Go.Operand.tmp 1) (Go.Operand.tmp 17), type := 0, pos := "found.go:47", after := #[{ on := 11, ground := Go.Ground.data }, { on := 11, ground := Go.Ground.chain }, { on := 0, ground := Go.Ground.phase }, { on := 1, ground := Go.Ground.phase }, { on := 2, ground := Go.Ground.phase }, { on := 3, ground := Go.Ground.phase }, { on := 4, ground := Go.Ground.phase }, { on := 5, ground := Go.Ground.phase }, { on := 6, ground := Go.Ground.phase }, { on := 7, ground := Go.Ground.phase }, { on := 8, ground := Go.Ground.phase }, { on := 9, ground := Go.Ground.phase }, { on := 10, ground := Go.Ground.phase }, { on := 11, ground := Go.Ground.phase }], guard := none }) rfl (fun K hK => ?_) AllReadyH.nil)
    have l0 := is.l.1
    have f0 := is.l.2
    go_simp
    replace is := is.put
    refine hK.out _ _ (HC.out _ _ _ _ is) (fun hS1 => ?_)
    (try simp only [Act.put, List.setIfInBounds_toArray, List.set_cons_zero, List.set_cons_succ])
    clear hK K l0 f0
    refine wpAnyH_done (by kernel_rfl) ?_ _
    clear hS1
    go_wp2
    go_end0
    exact ⟨rfl, _, is⟩

  · go_simp
    go_at_call 41
    with_reducible refine (c41 _).mono ?_
    rintro e w1 ⟨rfl, b1⟩
    (try simp only [])
    replace is := is.below b1
    clear b1
    refine hK.out _ _ (HC.out _ _ _ _ is) (fun hS1 => ?_)
    (try simp only [Act.put, List.setIfInBounds_toArray, List.set_cons_zero, List.set_cons_succ])
    clear hK K
    refine wpAnyH_take (i := 7) (oi := { dst := some 13, op := Go.Op.indexAddr 43 (Go.Operand.tmp 8) (Go.Operand.tmp 12), type := 0, pos := "found.go:47", after := #[{ on := 2, ground := Go.Ground.data }, { on := 6, ground := Go.Ground.data }], guard := none }) (v := .pointer (some ⟨b, off + L, none⟩)) rfl (by kernel_rfl) (by kernel_rfl) (by kernel_rfl) (fun _ _ _ h => h) (Or.inl ⟨by rfl, fun w hSw => by (try dsimp only at hSw); go_simp⟩) hS1 ?_
    simp only [Act.put, List.setIfInBounds_toArray, List.set_cons_zero, List.set_cons_succ]
    refine wpAnyH_take (i := 8) (oi := { dst := some 14, op := Go.Op.load 24 (Go.Operand.tmp 13), type := 24, pos := "found.go:47", after := #[{ on := 7, ground := Go.Ground.data }], guard := none }) (v := .int .u64 (W : Nat)) rfl (by kernel_rfl) (by kernel_rfl) (by kernel_rfl) (fun _ _ _ h => h) (Or.inl ⟨by rfl, fun w hSw => by (try dsimp only at hSw); go_simp⟩) hS1 ?_
    simp only [Act.put, List.setIfInBounds_toArray, List.set_cons_zero, List.set_cons_succ]
    refine wpAnyH_ready (rs := [0, 9]) (by kernel_rfl) (by simp) (AllReadyH.cons (o := { dst := some 6, op := Go.Op.load 77 (Go.Operand.tmp 1), type := 77, pos := "found.go:47", after := #[], guard := none }) rfl (fun K hK => ?_) (AllReadyH.cons (o := { dst := some 15, op := Go.Op.call { callee := Go.Callee.value (Go.Operand.func 12), args := #[Go.Operand.tmp 7, Go.Operand.tmp 14], argTypes := #[23, 24] }, type := 3, pos := "found.go:47", after := #[{ on := 1, ground := Go.Ground.data }, { on := 8, ground := Go.Ground.data }, { on := 6, ground := Go.Ground.chain }], guard := none }) rfl (fun K hK => ?_) AllReadyH.nil))
    · have l0 := is.l.1
      go_simp
      refine hK.out _ _ (HC.out _ _ _ _ is) (fun hS1 => ?_)
      (try simp only [Act.put, List.setIfInBounds_toArray, List.set_cons_zero, List.set_cons_succ])
      clear hK K l0
      refine wpAnyH_ready (rs := [9]) (by kernel_rfl) (by simp) (AllReadyH.cons (o := { dst := some 15, op := Go.Op.call { callee := Go.Callee.value (Go.Operand.func 12), args := #[Go.Operand.tmp 7, Go.Operand.tmp 14], argTypes := #[23, 24] }, type := 3, pos := "found.go:47", after := #[{ on := 1, ground := Go.Ground.data }, { on := 8, ground := Go.Ground.data }, { on := 6, ground := Go.Ground.chain }], guard := none }) rfl (fun K hK => ?_) AllReadyH.nil)
      go_simp
      go_at_call 12
      with_reducible refine (c12 _).mono ?_
      rintro e w2 ⟨rfl, b1⟩
      (try simp only [])
      replace is := is.below b1
      clear b1
      refine hK.out _ _ (HC.out _ _ _ _ is) (fun hS1 => ?_)
      (try simp only [Act.put, List.setIfInBounds_toArray, List.set_cons_zero, List.set_cons_succ])
      clear hK K
      refine wpAnyH_ready (rs := [10]) (by kernel_rfl) (by simp) (AllReadyH.cons (o := { dst := some 16, op := Go.Op.buildSlice 77 1 #[(0, Go.Operand.tmp 15)], type := 77, pos := "found.go:47", after := #[{ on := 9, ground := Go.Ground.data }], guard := none }) rfl (fun K hK => ?_) AllReadyH.nil)
      go_simp
      have hnew := hid1 (one_new w2 y 3)
      replace is := is.below (alloc_below _ (.cells #[.int .i64 y] 3))
      refine hK.out _ _ (HC.out _ _ _ _ is) (fun hS1 => ?_)
      (try simp only [Act.put, List.setIfInBounds_toArray, List.set_cons_zero, List.set_cons_succ])
      clear hK K
      generalize w2.heap.size = R at hnew ⊢
      generalize w2.alloc (.cells #[.int .i64 y] 3) = wA at *
      refine wpAnyH_ready (rs := [11]) (by kernel_rfl) (by simp) (AllReadyH.cons (o := { dst := some 17, op := Go.Op.call { callee := Go.Callee.builtin Go.Builtin.append, args := #[Go.Operand.tmp 6, Go.Operand.tmp 16], argTypes := #[77, 77] }, type := 77, pos := "found.go:47", after := #[{ on := 0, ground := Go.Ground.data }, { on := 10, ground := Go.Ground.data }, { on := 9, ground := Go.Ground.chain }], guard := none }) rfl (fun K hK => ?_) AllReadyH.nil)
      refine step_append_ints (by rfl) _ _ (by rfl) _ F [y] (by rfl) is.own ⟨R, 0, none⟩ 1 1 (by rfl) rfl (by simp) hnew.out (by simp; omega) ?_
      intro v' w8 hI hg hp
      replace is := is.grow hI hg hp
      clear hI hg hp hnew
      obtain ⟨ad', cp', rfl, _⟩ := is.own.form
      generalize (F ++ [y]).length = q' at *
      refine hK.out _ _ (HC.out _ _ _ _ is) (fun hS1 => ?_)
      (try simp only [Act.put, List.setIfInBounds_toArray, List.set_cons_zero, List.set_cons_succ])
      clear hK K
      refine wpAnyH_ready (rs := [12]) (by kernel_rfl) (by simp) (AllReadyH.cons (o := { dst := none, op := Go.Op.store 77 (Go.Operand.tmp 1) (Go.Operand.tmp 17), type := 0, pos := "found.go:47", after := #[{ on := 11, ground := Go.Ground.data }, { on := 11, ground := Go.Ground.chain }, { on := 0, ground := Go.Ground.phase }, { on := 1, ground := Go.Ground.phase }, { on := 2, ground := Go.Ground.phase }, { on := 3, ground := Go.Ground.phase }, { on := 4, ground := Go.Ground.phase }, { on := 5, ground := Go.Ground.phase }, { on := 6, ground := Go.Ground.phase }, { on := 7, ground := Go.Ground.phase }, { on := 8, ground := Go.Ground.phase }, { on := 9, ground := Go.Ground.phase }, { on := 10, ground := Go.Ground.phase }, { on := 11, ground := Go.Ground.phase }], guard := none }) rfl (fun K hK => ?_) AllReadyH.nil)
      have l0 := is.l.1
      have f0 := is.l.2
      go_simp
      replace is := is.put
      refine hK.out _ _ (HC.out _ _ _ _ is) (fun hS1 => ?_)
      (try simp only [Act.put, List.setIfInBounds_toArray, List.set_cons_zero, List.set_cons_succ])
      clear hK K l0 f0
      refine wpAnyH_done (by kernel_rfl) ?_ _
      clear hS1
      go_wp2
      go_end0
      exact ⟨rfl, _, is⟩

    · go_simp
      go_at_call 12
      with_reducible refine (c12 _).mono ?_
      rintro e w2 ⟨rfl, b1⟩
      (try simp only [])
      replace is := is.below b1
      clear b1
      refine hK.out _ _ (HC.out _ _ _ _ is) (fun hS1 => ?_)
      (try simp only [Act.put, List.setIfInBounds_toArray, List.set_cons_zero, List.set_cons_succ])
      clear hK K
      refine wpAnyH_ready (rs := [0, 10]) (by kernel_rfl) (by simp) (AllReadyH.cons (o := { dst := some 6, op := Go.Op.load 77 (Go.Operand.tmp 1), type := 77, pos := "found.go:47", after := #[], guard := none }) rfl (fun K hK => ?_) (AllReadyH.cons (o := { dst := some 16, op := Go.Op.buildSlice 77 1 #[(0, Go.Operand.tmp 15)], type := 77, pos := "found.go:47", after := #[{ on := 9, ground := Go.Ground.data }], guard := none }) rfl (fun K hK => ?_) AllReadyH.nil))
      · have l0 := is.l.1
        go_simp
        refine hK.out _ _ (HC.out _ _ _ _ is) (fun hS1 => ?_)
        (try simp only [Act.put, List.setIfInBounds_toArray, List.set_cons_zero, List.set_cons_succ])
        clear hK K l0
        refine wpAnyH_ready (rs := [10]) (by kernel_rfl) (by simp) (AllReadyH.cons (o := { dst := some 16, op := Go.Op.buildSlice 77 1 #[(0, Go.Operand.tmp 15)], type := 77, pos := "found.go:47", after := #[{ on := 9, ground := Go.Ground.data }], guard := none }) rfl (fun K hK => ?_) AllReadyH.nil)
        go_simp
        have hnew := hid1 (one_new w2 y 3)
        replace is := is.below (alloc_below _ (.cells #[.int .i64 y] 3))
        refine hK.out _ _ (HC.out _ _ _ _ is) (fun hS1 => ?_)
        (try simp only [Act.put, List.setIfInBounds_toArray, List.set_cons_zero, List.set_cons_succ])
        clear hK K
        generalize w2.heap.size = R at hnew ⊢
        generalize w2.alloc (.cells #[.int .i64 y] 3) = wA at *
        refine wpAnyH_ready (rs := [11]) (by kernel_rfl) (by simp) (AllReadyH.cons (o := { dst := some 17, op := Go.Op.call { callee := Go.Callee.builtin Go.Builtin.append, args := #[Go.Operand.tmp 6, Go.Operand.tmp 16], argTypes := #[77, 77] }, type := 77, pos := "found.go:47", after := #[{ on := 0, ground := Go.Ground.data }, { on := 10, ground := Go.Ground.data }, { on := 9, ground := Go.Ground.chain }], guard := none }) rfl (fun K hK => ?_) AllReadyH.nil)
        refine step_append_ints (by rfl) _ _ (by rfl) _ F [y] (by rfl) is.own ⟨R, 0, none⟩ 1 1 (by rfl) rfl (by simp) hnew.out (by simp; omega) ?_
        intro v' w8 hI hg hp
        replace is := is.grow hI hg hp
        clear hI hg hp hnew
        obtain ⟨ad', cp', rfl, _⟩ := is.own.form
        generalize (F ++ [y]).length = q' at *
        refine hK.out _ _ (HC.out _ _ _ _ is) (fun hS1 => ?_)
        (try simp only [Act.put, List.setIfInBounds_toArray, List.set_cons_zero, List.set_cons_succ])
        clear hK K
        refine wpAnyH_ready (rs := [12]) (by kernel_rfl) (by simp) (AllReadyH.cons (o := { dst := none, op := Go.Op.store 77 (Go.Operand.tmp 1) (Go.Operand.tmp 17), type := 0, pos := "found.go:47", after := #[{ on := 11, ground := Go.Ground.data }, { on := 11, ground := Go.Ground.chain }, { on := 0, ground := Go.Ground.phase }, { on := 1, ground := Go.Ground.phase }, { on := 2, ground := Go.Ground.phase }, { on := 3, ground := Go.Ground.phase }, { on := 4, ground := Go.Ground.phase }, { on := 5, ground := Go.Ground.phase }, { on := 6, ground := Go.Ground.phase }, { on := 7, ground := Go.Ground.phase }, { on := 8, ground := Go.Ground.phase }, { on := 9, ground := Go.Ground.phase }, { on := 10, ground := Go.Ground.phase }, { on := 11, ground := Go.Ground.phase }], guard := none }) rfl (fun K hK => ?_) AllReadyH.nil)
        have l0 := is.l.1
        have f0 := is.l.2
        go_simp
        replace is := is.put
        refine hK.out _ _ (HC.out _ _ _ _ is) (fun hS1 => ?_)
        (try simp only [Act.put, List.setIfInBounds_toArray, List.set_cons_zero, List.set_cons_succ])
        clear hK K l0 f0
        refine wpAnyH_done (by kernel_rfl) ?_ _
        clear hS1
        go_wp2
        go_end0
        exact ⟨rfl, _, is⟩

      · go_simp
        have hnew := hid1 (one_new w2 y 3)
        replace is := is.below (alloc_below _ (.cells #[.int .i64 y] 3))
        refine hK.out _ _ (HC.out _ _ _ _ is) (fun hS1 => ?_)
        (try simp only [Act.put, List.setIfInBounds_toArray, List.set_cons_zero, List.set_cons_succ])
        clear hK K
        generalize w2.heap.size = R at hnew ⊢
        generalize w2.alloc (.cells #[.int .i64 y] 3) = wA at *
        refine wpAnyH_ready (rs := [0]) (by kernel_rfl) (by simp) (AllReadyH.cons (o := { dst := some 6, op := Go.Op.load 77 (Go.Operand.tmp 1), type := 77, pos := "found.go:47", after := #[], guard := none }) rfl (fun K hK => ?_) AllReadyH.nil)
        have l0 := is.l.1
        go_simp
        refine hK.out _ _ (HC.out _ _ _ _ is) (fun hS1 => ?_)
        (try simp only [Act.put, List.setIfInBounds_toArray, List.set_cons_zero, List.set_cons_succ])
        clear hK K l0
        refine wpAnyH_ready (rs := [11]) (by kernel_rfl) (by simp) (AllReadyH.cons (o := { dst := some 17, op := Go.Op.call { callee := Go.Callee.builtin Go.Builtin.append, args := #[Go.Operand.tmp 6, Go.Operand.tmp 16], argTypes := #[77, 77] }, type := 77, pos := "found.go:47", after := #[{ on := 0, ground := Go.Ground.data }, { on := 10, ground := Go.Ground.data }, { on := 9, ground := Go.Ground.chain }], guard := none }) rfl (fun K hK => ?_) AllReadyH.nil)
        refine step_append_ints (by rfl) _ _ (by rfl) _ F [y] (by rfl) is.own ⟨R, 0, none⟩ 1 1 (by rfl) rfl (by simp) hnew.out (by simp; omega) ?_
        intro v' w8 hI hg hp
        replace is := is.grow hI hg hp
        clear hI hg hp hnew
        obtain ⟨ad', cp', rfl, _⟩ := is.own.form
        generalize (F ++ [y]).length = q' at *
        refine hK.out _ _ (HC.out _ _ _ _ is) (fun hS1 => ?_)
        (try simp only [Act.put, List.setIfInBounds_toArray, List.set_cons_zero, List.set_cons_succ])
        clear hK K
        refine wpAnyH_ready (rs := [12]) (by kernel_rfl) (by simp) (AllReadyH.cons (o := { dst := none, op := Go.Op.store 77 (Go.Operand.tmp 1) (Go.Operand.tmp 17), type := 0, pos := "found.go:47", after := #[{ on := 11, ground := Go.Ground.data }, { on := 11, ground := Go.Ground.chain }, { on := 0, ground := Go.Ground.phase }, { on := 1, ground := Go.Ground.phase }, { on := 2, ground := Go.Ground.phase }, { on := 3, ground := Go.Ground.phase }, { on := 4, ground := Go.Ground.phase }, { on := 5, ground := Go.Ground.phase }, { on := 6, ground := Go.Ground.phase }, { on := 7, ground := Go.Ground.phase }, { on := 8, ground := Go.Ground.phase }, { on := 9, ground := Go.Ground.phase }, { on := 10, ground := Go.Ground.phase }, { on := 11, ground := Go.Ground.phase }], guard := none }) rfl (fun K hK => ?_) AllReadyH.nil)
        have l0 := is.l.1
        have f0 := is.l.2
        go_simp
        replace is := is.put
        refine hK.out _ _ (HC.out _ _ _ _ is) (fun hS1 => ?_)
        (try simp only [Act.put, List.setIfInBounds_toArray, List.set_cons_zero, List.set_cons_succ])
        clear hK K l0 f0
        refine wpAnyH_done (by kernel_rfl) ?_ _
        clear hS1
        go_wp2
        go_end0
        exact ⟨rfl, _, is⟩




end Go.Proofs.YteechgmjaagbmaaDoor
