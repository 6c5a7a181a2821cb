/- mark's names. -/
import Derived.Test.YtcioomopgdhlmaaGreatDoorCN
namespace Go.Proofs.YtcioomopgdhlmaaGreatDoor
open Go.RowKit
open Mm (IsMem MS touched Only IsWords)
open Hh (WT okW wordOf IsHd)

theorem zero_cells {w : World} {H : Nat} (h : w.heap[H]? = some (.cells #[.int .i64 0, .int .i64 0, .bool false, .int .i64 0, .int .i64 0, .int .i64 0] 57 (0, 0))) :
    (w.cell? ⟨H, 0, none⟩ = some (.int .i64 0) ∧ w.cell? ⟨H, 1, none⟩ = some (.int .i64 0) ∧ w.cell? ⟨H, 2, none⟩ = some (.bool false) ∧ w.cell? ⟨H, 3, none⟩ = some (.int .i64 0) ∧ w.cell? ⟨H, 4, none⟩ = some (.int .i64 0) ∧ w.cell? ⟨H, 5, none⟩ = some (.int .i64 0)) ∧ ∀ i, w.frozen? ⟨H, i, none⟩ = false := by
  refine ⟨⟨?_, ?_, ?_, ?_, ?_, ?_⟩, fun i => by simp [World.frozen?, h]⟩ <;> simp [World.cell?, h]
theorem Nv.setH {w wr : World} {K : Cf} {bl bc bw bs b off cap s : Nat} {u v : Value} {F : List Int} (h : Nv w wr K bl bc bw bs b off cap s u v F) {H : Nat} {C : Array Value} (hz : wr.heap[H]? = some (.cells C 57 (0, 0))) (hH : w.heap.size ≤ H) (i : Nat) (x : Value) :
    Nv w (wr.setCell ⟨H, i, none⟩ x) K bl bc bw bs b off cap s u v F ∧ (wr.setCell ⟨H, i, none⟩ x).heap[H]? = some (.cells (C.setIfInBounds i x) 57 (0, 0)) := by
  have kb : ∀ {j : Nat} {c : Array Value} {t : TypeId}, wr.heap[j]? = some (.cells c t (0, 0)) → t ≠ 57 → (wr.setCell ⟨H, i, none⟩ x).heap[j]? = some (.cells c t (0, 0)) := fun {j c t} hj hn => by
    rw [Below.heap_setCell _ _ _ _ (by intro e; have e2 : j = H := e; subst e2; rw [hz] at hj; simp at hj; exact hn hj.2.symm)]
    exact hj
  refine ⟨⟨kb h.cfg (by decide), kb h.ws (by decide), kb h.sl (by decide), kb h.ll (by decide), ?_, h.og, h.bel.setCell hH _, h.nb⟩, Mm.heap_setCell_at hz x⟩
  refine h.own.kept fun g hg => Below.heap_setCell _ _ _ _ ?_
  intro e
  have e2 : g = H := e
  subst e2
  exact h.own.apart hz (by decide) hg
theorem Nv.six {w wr : World} {K : Cf} {bl bc bw bs b off cap s : Nat} {u v : Value} {F : List Int} (h : Nv w wr K bl bc bw bs b off cap s u v F) {H : Nat} {c0 c1 c2 c3 c4 c5 : Value} (hz : wr.heap[H]? = some (.cells #[c0, c1, c2, c3, c4, c5] 57 (0, 0))) (hH : w.heap.size ≤ H) (x0 x1 x2 x3 x4 x5 : Value) :
    Nv w ((((((wr.setCell ⟨H, 0, none⟩ x0).setCell ⟨H, 1, none⟩ x1).setCell ⟨H, 2, none⟩ x2).setCell ⟨H, 3, none⟩ x3).setCell ⟨H, 4, none⟩ x4).setCell ⟨H, 5, none⟩ x5) K bl bc bw bs b off cap s u v F ∧ ((((((wr.setCell ⟨H, 0, none⟩ x0).setCell ⟨H, 1, none⟩ x1).setCell ⟨H, 2, none⟩ x2).setCell ⟨H, 3, none⟩ x3).setCell ⟨H, 4, none⟩ x4).setCell ⟨H, 5, none⟩ x5).heap[H]? = some (.cells #[x0, x1, x2, x3, x4, x5] 57 (0, 0)) := by
  obtain ⟨a0, z0⟩ := h.setH hz hH 0 x0
  obtain ⟨a1, z1⟩ := a0.setH z0 hH 1 x1
  obtain ⟨a2, z2⟩ := a1.setH z1 hH 2 x2
  obtain ⟨a3, z3⟩ := a2.setH z2 hH 3 x3
  obtain ⟨a4, z4⟩ := a3.setH z3 hH 4 x4
  obtain ⟨a5, z5⟩ := a4.setH z4 hH 5 x5
  exact ⟨a5, by rw [z5]; rfl⟩
theorem Nv.wt {w wr : World} {K : Cf} {bl bc bw bs b off cap s : Nat} {u v : Value} {F : List Int} (h : Nv w wr K bl bc bw bs b off cap s u v F) (hw : WT w) : WT wr := hw.below h.bel
theorem Nv.start (w : World) (K : Cf) (b off cap s : Nat) : Nv w ((((w.alloc (.cells #[.int .i64 (K.S : Nat), .int .i64 K.a, .int .i64 (K.C : Nat), .int .i64 (K.D : Nat), .int .i64 K.g, .int .i64 K.k] 23)).alloc (.cells #[.slice (some ⟨b, off, none⟩) K.N cap] 25)).alloc (.cells #[.int .i64 (s : Nat)] 3)).alloc (.cells #[.slice none 0 0] 45)) K (w.heap.size + 1 + 1 + 1) w.heap.size (w.heap.size + 1) (w.heap.size + 1 + 1) b off cap s (.slice none 0 0) (.slice none 0 0) [] := by
  have h1 := cfg_new w K.S K.a K.C K.D K.g K.k
  have b1 := alloc_below w (.cells #[.int .i64 (K.S : Nat), .int .i64 K.a, .int .i64 (K.C : Nat), .int .i64 (K.D : Nat), .int .i64 K.g, .int .i64 K.k] 23)
  have e1 : (w.alloc (.cells #[.int .i64 (K.S : Nat), .int .i64 K.a, .int .i64 (K.C : Nat), .int .i64 (K.D : Nat), .int .i64 K.g, .int .i64 K.k] 23)).heap.size = w.heap.size + 1 := by simp
  generalize w.alloc (.cells #[.int .i64 (K.S : Nat), .int .i64 K.a, .int .i64 (K.C : Nat), .int .i64 (K.D : Nat), .int .i64 K.g, .int .i64 K.k] 23) = w1 at *
  have h2 := new_obj w1 (.cells #[.slice (some ⟨b, off, none⟩) K.N cap] 25)
  have b2 := alloc_below w1 (.cells #[.slice (some ⟨b, off, none⟩) K.N cap] 25)
  have e2 : (w1.alloc (.cells #[.slice (some ⟨b, off, none⟩) K.N cap] 25)).heap.size = w1.heap.size + 1 := by simp
  generalize w1.alloc (.cells #[.slice (some ⟨b, off, none⟩) K.N cap] 25) = w2 at *
  have h3 := new_obj w2 (.cells #[.int .i64 (s : Nat)] 3)
  have b3 := alloc_below w2 (.cells #[.int .i64 (s : Nat)] 3)
  have e3 : (w2.alloc (.cells #[.int .i64 (s : Nat)] 3)).heap.size = w2.heap.size + 1 := by simp
  generalize w2.alloc (.cells #[.int .i64 (s : Nat)] 3) = w3 at *
  have h4 := new_obj w3 (.cells #[.slice none 0 0] 45)
  have b4 := alloc_below w3 (.cells #[.slice none 0 0] 45)
  generalize w3.alloc (.cells #[.slice none 0 0] 45) = w4 at *
  rw [e1] at h2
  rw [e2, e1] at h3
  rw [e3, e2, e1] at h4
  exact ⟨((h1.below b2).below b3).below b4, (b4.block _ (by rw [e3, e2, e1]; omega)).trans ((b3.block _ (by rw [e2, e1]; omega)).trans h2), (b4.block _ (by rw [e3, e2, e1]; omega)).trans h3, h4, IsZ.nil _, (fun g hg => by cases hg), seq_below (seq_below (seq_below b1 b2) b3) b4, by omega⟩

/-- What names tells. -/
def nmL (K : Cf) (X : List Nat) (s : Nat) : List Int :=
  if knW (X.getD (K.hd s) 0) = 1 then (List.range (K.fl (arW (X.getD (K.hd s) 0)))).map fun i => K.nm (X.getD (K.bd s i) 0)
  else if knW (X.getD (K.hd s) 0) = 2 then [K.nm (X.getD (K.bd s 0) 0), K.nm (X.getD (K.bd s 2) 0)] else []
def ndL (K : Cf) (X : List Nat) (s : Nat) (n : Nat) : List Int := (List.range n).map fun i => K.nm (X.getD (K.bd s i) 0)
theorem ndL_succ (K : Cf) (X : List Nat) (s n : Nat) : ndL K X s n ++ [K.nm (X.getD (K.bd s n) 0)] = ndL K X s (n + 1) := by simp [ndL, List.range_succ]
theorem ndL_len (K : Cf) (X : List Nat) (s n : Nat) : (ndL K X s n).length = n := by simp [ndL]

set_option maxHeartbeats 16000000 in
theorem names_any {w : World} (hw : WT w) {K : Cf} (hK : K.Ok) (hB : 3 ≤ K.B) {b off cap s : Nat} {X : List Nat} (hR : RdW w b off X) (hX : X.length = K.N) (hlt : ∀ i, X.getD i 0 < 18446744073709551616) (hs : s < K.S) :
    Calls Tryz.prog 25 #[.agg K.cs, .slice (some ⟨b, off, none⟩) K.N cap, .int .i64 (s : Nat)] w fun r w' => ∃ v, r = .returned v ∧ IsZ w' v (nmL K X s) ∧ (∀ g, v.ownBlock = some g → w.heap.size ≤ g) ∧ Below w.heap.size w w' := by
  have hL := K.hd_lt hs
  have hN := hK.N_b
  have hb8 := hK.b8
  have hW := hlt (K.hd s)
  have hRL : ∀ w', Below w.heap.size w w' → w'.cell? ⟨b, off + K.hd s, none⟩ = some (.int .u64 (X.getD (K.hd s) 0 : Nat)) := fun w' h => (hR.below h).2 (K.hd s) (by omega)
  have c43 := fun w => header_at hK hs rfl w
  have c77 := fun w hw => unp_any hW w hw
  have har := arW_lt (X.getD (K.hd s) 0)
  have c83 := fun w => fields_any hK har w
  have is := Nv.start w K b off cap s
  have c82 := hid1 (fun (bl bc bw bs : Nat) (w0 : World) (v : Value) (F : List Int) (is : Nv w w0 K bl bc bw bs b off cap s v v F) (i : Nat) (hi : i < K.B) (hF : F.length < 900000) => name1 hK is hR hX hlt hs hi hF)
  have hfl : K.fl (arW (X.getD (K.hd s) 0)) ≤ K.B ∧ K.fl (arW (X.getD (K.hd s) 0)) < 16 := by unfold Cf.fl; omega
  have hnm : Hid (nmL K X s = if knW (X.getD (K.hd s) 0) = 1 then ndL K X s (K.fl (arW (X.getD (K.hd s) 0))) else if knW (X.getD (K.hd s) 0) = 2 then [K.nm (X.getD (K.bd s 0) 0), K.nm (X.getD (K.bd s 2) 0)] else []) := hid1 rfl
  obtain ⟨R, hRs⟩ : ∃ R, nmL K X s = R := ⟨_, rfl⟩
  rw [hRs] at hnm ⊢
  have HC := hid1 (fun (bl bc bw bs : Nat) (u v : Value) (F : List Int) (wq : World) (h : Nv w wq K bl bc bw bs b off cap s u v F) => h.rd hRL)
  have hL1 : ((K.hd s : Nat) : Int) < (K.N : Int) := by omega
  have hL0 : (0 : Int) ≤ ((K.hd s : Nat) : Int) := by omega
  replace hw := hid1 hw
  clear hR hlt hK hs hW hRL hRs hX
  generalize K.hd s = L at *
  generalize X.getD L 0 = W at *
  generalize knW W = kn at *
  generalize arW W = ar at *
  generalize grayW W = g at *
  generalize okW W = z at *
  unfold Cf.cs at *
  go_enter Tryz.func25, Tryz.ntmps25
  go_upto_region 3 with fail
  generalize World.alloc _ _ = w0 at *
  generalize hbl : w.heap.size + 1 + 1 + 1 = bl at *
  generalize hbs : w.heap.size + 1 + 1 = bs at *
  generalize hbw : w.heap.size + 1 = bw at *
  generalize hbc : w.heap.size = bc at is ⊢
  replace hbc := hid1 hbc
  clear hbl hbs hbw
  replace is := is.below (Below.refl _ _).drew
  have hS0 := HC.out _ _ _ _ _ _ _ _ is
  refine wp_region_held_drew (S := fun wr => wr.cell? ⟨bc, 0, none⟩ = some (.int .i64 (K.S : Nat)) ∧ wr.cell? ⟨bc, 1, none⟩ = some (.int .i64 K.a) ∧ wr.cell? ⟨bc, 2, none⟩ = some (.int .i64 (K.C : Nat)) ∧ wr.cell? ⟨bc, 3, none⟩ = some (.int .i64 (K.D : Nat)) ∧ wr.cell? ⟨bc, 4, none⟩ = some (.int .i64 K.g) ∧ wr.cell? ⟨bc, 5, none⟩ = some (.int .i64 K.k) ∧ wr.cell? ⟨bw, 0, none⟩ = some (.slice (some ⟨b, off, none⟩) K.N cap) ∧ wr.cell? ⟨bs, 0, none⟩ = some (.int .i64 (s : Nat)) ∧ wr.cell? ⟨b, off + L, none⟩ = some (.int .u64 (W : Nat))) (by kernel_rfl) hS0 (fun hS1 => ?_)
  clear hS0
  generalize w0.drew = w0 at *
  refine wpAnyH_take (i := 0) (oi := { dst := some 14, op := Go.Op.load 25 (Go.Operand.tmp 4), type := 25, pos := "found.go:49", after := #[], guard := none }) (v := .slice (some ⟨b, off, none⟩) K.N cap) rfl (by kernel_rfl) (by kernel_rfl) (by kernel_rfl) (fun _ _ _ h => h) (Or.inl ⟨by rfl, fun w hSw => by (try dsimp only at hSw); go_simp⟩) hS1 ?_
  simp only [Act.put, List.setIfInBounds_toArray, List.set_cons_zero, List.set_cons_succ]
  refine wpAnyH_take (i := 1) (oi := { dst := some 15, op := Go.Op.load 23 (Go.Operand.tmp 3), type := 23, pos := "found.go:49", after := #[], guard := none }) (v := .agg #[.int .i64 (K.S : Nat), .int .i64 K.a, .int .i64 (K.C : Nat), .int .i64 (K.D : Nat), .int .i64 K.g, .int .i64 K.k]) rfl (by kernel_rfl) (by kernel_rfl) (by kernel_rfl) (fun _ _ _ h => h) (Or.inl ⟨by rfl, fun w hSw => by (try dsimp only at hSw); go_simp⟩) hS1 ?_
  simp only [Act.put, List.setIfInBounds_toArray, List.set_cons_zero, List.set_cons_succ]
  refine wpAnyH_take (i := 2) (oi := { dst := some 16, op := Go.Op.load 3 (Go.Operand.tmp 5), type := 3, pos := "found.go:49", after := #[], guard := none }) (v := .int .i64 (s : Nat)) rfl (by kernel_rfl) (by kernel_rfl) (by kernel_rfl) (fun _ _ _ h => h) (Or.inl ⟨by rfl, fun w hSw => by (try dsimp only at hSw); go_simp⟩) hS1 ?_
  simp only [Act.put, List.setIfInBounds_toArray, List.set_cons_zero, List.set_cons_succ]
  refine wpAnyH_ready (rs := [3, 10]) (by kernel_rfl) (by simp) (AllReadyH.cons (o := { dst := some 17, op := Go.Op.call { callee := Go.Callee.value (Go.Operand.func 19), args := #[Go.Operand.tmp 15, Go.Operand.tmp 16], argTypes := #[23, 3] }, type := 3, pos := "found.go:49", after := #[{ on := 1, ground := Go.Ground.data }, { on := 2, ground := Go.Ground.data }], guard := none }) rfl (fun K hK => ?_) (AllReadyH.cons (o := { dst := some 9, op := Go.Op.alloc 57, type := 0, pos := "found.go:49", after := #[], guard := none }) rfl (fun K hK => ?_) AllReadyH.nil))
  · go_simp
    go_at_call 19
    with_reducible refine (c43 _).mono ?_
    rintro e w1 ⟨rfl, b1⟩
    (try simp only [])
    replace is := is.below b1
    clear b1
    refine hK.out _ _ (HC.out _ _ _ _ _ _ _ _ is) (fun hS1 => ?_)
    (try simp only [Act.put, List.setIfInBounds_toArray, List.set_cons_zero, List.set_cons_succ])
    clear hK K
    refine wpAnyH_take (i := 4) (oi := { dst := some 18, op := Go.Op.indexAddr 25 (Go.Operand.tmp 14) (Go.Operand.tmp 17), type := 0, pos := "found.go:49", after := #[{ on := 0, ground := Go.Ground.data }, { on := 3, ground := Go.Ground.data }], guard := none }) (v := .pointer (some ⟨b, off + L, none⟩)) rfl (by kernel_rfl) (by kernel_rfl) (by kernel_rfl) (fun _ _ _ h => h) (Or.inl ⟨by rfl, fun w hSw => by (try dsimp only at hSw); go_simp⟩) hS1 ?_
    simp only [Act.put, List.setIfInBounds_toArray, List.set_cons_zero, List.set_cons_succ]
    refine wpAnyH_take (i := 5) (oi := { dst := some 19, op := Go.Op.load 26 (Go.Operand.tmp 18), type := 26, pos := "found.go:49", after := #[{ on := 4, ground := Go.Ground.data }], guard := none }) (v := .int .u64 (W : Nat)) rfl (by kernel_rfl) (by kernel_rfl) (by kernel_rfl) (fun _ _ _ h => h) (Or.inl ⟨by rfl, fun w hSw => by (try dsimp only at hSw); go_simp⟩) hS1 ?_
    simp only [Act.put, List.setIfInBounds_toArray, List.set_cons_zero, List.set_cons_succ]
    refine wpAnyH_ready (rs := [6, 10]) (by kernel_rfl) (by simp) (AllReadyH.cons (o := { dst := some 20, op := Go.Op.call { callee := Go.Callee.value (Go.Operand.func 50), args := #[Go.Operand.tmp 19], argTypes := #[26] }, type := 58, pos := "found.go:49", after := #[{ on := 5, ground := Go.Ground.data }, { on := 3, ground := Go.Ground.chain }], guard := none }) rfl (fun K hK => ?_) (AllReadyH.cons (o := { dst := some 9, op := Go.Op.alloc 57, type := 0, pos := "found.go:49", after := #[], guard := none }) rfl (fun K hK => ?_) AllReadyH.nil))
    · go_simp
      go_at_call 50
      with_reducible refine (c77 _ (is.wt hw.out)).mono ?_
      rintro e w2 ⟨⟨m, n, q, rfl⟩, b1⟩
      (try simp only [])
      replace is := is.below b1
      clear b1
      refine hK.out _ _ (HC.out _ _ _ _ _ _ _ _ is) (fun hS1 => ?_)
      (try simp only [Act.put, List.setIfInBounds_toArray, List.set_cons_zero, List.set_cons_succ])
      clear hK K
      refine wpAnyH_take (i := 7) (oi := { dst := some 13, op := Go.Op.move (Go.Operand.tmp 20), type := 58, pos := "found.go:49", after := #[{ on := 6, ground := Go.Ground.data }], guard := none }) (v := .tuple #[.agg #[.int .i64 (kn : Nat), .int .i64 m, .bool g, .int .i64 (ar : Nat), .int .i64 n, .int .i64 q], .bool z]) rfl (by kernel_rfl) (by kernel_rfl) (by kernel_rfl) (fun _ _ _ h => h) (Or.inl ⟨by rfl, fun w hSw => by (try dsimp only at hSw); go_simp⟩) hS1 ?_
      simp only [Act.put, List.setIfInBounds_toArray, List.set_cons_zero, List.set_cons_succ]
      refine wpAnyH_take (i := 8) (oi := { dst := some 21, op := Go.Op.extract (Go.Operand.tmp 13) 0, type := 57, pos := "found.go:49", after := #[{ on := 7, ground := Go.Ground.data }], guard := none }) (v := .agg #[.int .i64 (kn : Nat), .int .i64 m, .bool g, .int .i64 (ar : Nat), .int .i64 n, .int .i64 q]) rfl (by kernel_rfl) (by kernel_rfl) (by kernel_rfl) (fun _ _ _ h => h) (Or.inl ⟨by rfl, fun w hSw => by (try dsimp only at hSw); go_simp⟩) hS1 ?_
      simp only [Act.put, List.setIfInBounds_toArray, List.set_cons_zero, List.set_cons_succ]
      refine wpAnyH_take (i := 9) (oi := { dst := some 22, op := Go.Op.extract (Go.Operand.tmp 13) 1, type := 4, pos := "found.go:49", after := #[{ on := 7, ground := Go.Ground.data }, { on := 11, ground := Go.Ground.gcOnly Go.Departure.lateStores }], guard := none }) (v := .bool z) rfl (by kernel_rfl) (by kernel_rfl) (by kernel_rfl) (fun _ _ _ h => h) (Or.inl ⟨by rfl, fun w hSw => by (try dsimp only at hSw); go_simp⟩) hS1 ?_
      simp only [Act.put, List.setIfInBounds_toArray, List.set_cons_zero, List.set_cons_succ]
      refine wpAnyH_ready (rs := [10]) (by kernel_rfl) (by simp) (AllReadyH.cons (o := { dst := some 9, op := Go.Op.alloc 57, type := 0, pos := "found.go:49", after := #[], guard := none }) rfl (fun K hK => ?_) AllReadyH.nil)
      go_simp
      have hz := hid1 (new_obj w2 (.cells #[.int .i64 0, .int .i64 0, .bool false, .int .i64 0, .int .i64 0, .int .i64 0] 57))
      have hH := hid1 (is.bel.size)
      replace is := is.below (alloc_below _ (.cells #[.int .i64 0, .int .i64 0, .bool false, .int .i64 0, .int .i64 0, .int .i64 0] 57))
      refine hK.out _ _ (HC.out _ _ _ _ _ _ _ _ is) (fun hS1 => ?_)
      (try simp only [Act.put, List.setIfInBounds_toArray, List.set_cons_zero, List.set_cons_succ])
      clear hK K
      generalize w2.heap.size = H at hz hH ⊢
      generalize w2.alloc (.cells #[.int .i64 0, .int .i64 0, .bool false, .int .i64 0, .int .i64 0, .int .i64 0] 57) = wA at *
      refine wpAnyH_ready (rs := [11]) (by kernel_rfl) (by simp) (AllReadyH.cons (o := { dst := none, op := Go.Op.store 57 (Go.Operand.tmp 9) (Go.Operand.tmp 21), type := 0, pos := "found.go:49", after := #[{ on := 10, ground := Go.Ground.data }, { on := 8, ground := Go.Ground.data }, { on := 6, ground := Go.Ground.chain }, { on := 0, ground := Go.Ground.phase }, { on := 1, ground := Go.Ground.phase }, { on := 2, ground := Go.Ground.phase }, { on := 3, ground := Go.Ground.phase }, { on := 4, ground := Go.Ground.phase }, { on := 5, ground := Go.Ground.phase }, { on := 6, ground := Go.Ground.phase }, { on := 7, ground := Go.Ground.phase }, { on := 8, ground := Go.Ground.phase }, { on := 9, ground := Go.Ground.textOnly Go.Departure.lateStores }, { on := 10, ground := Go.Ground.phase }], guard := none }) rfl (fun K hK => ?_) AllReadyH.nil)
      have x := zero_cells hz.out
      have x0 := x.1.1
      have x1 := x.1.2.1
      have x2 := x.1.2.2.1
      have x3 := x.1.2.2.2.1
      have x4 := x.1.2.2.2.2.1
      have x5 := x.1.2.2.2.2.2
      have ff := x.2
      clear x
      go_simp
      have sx := is.six hz.out hH.out (.int .i64 (kn : Nat)) (.int .i64 m) (.bool g) (.int .i64 (ar : Nat)) (.int .i64 n) (.int .i64 q)
      have is' := sx.1
      have hh := sx.2
      clear sx
      refine hK.out _ _ (HC.out _ _ _ _ _ _ _ _ is') (fun hS1 => ?_)
      (try simp only [Act.put, List.setIfInBounds_toArray, List.set_cons_zero, List.set_cons_succ])
      clear hK K x0 x1 x2 x3 x4 x5 ff hz hH is
      refine wpAnyH_take (i := 12) (oi := { dst := some 10, op := Go.Op.assign (Go.Operand.tmp 22), type := 4, pos := "found.go:49", after := #[{ on := 9, ground := Go.Ground.data }, { on := 11, ground := Go.Ground.chain }, { on := 0, ground := Go.Ground.phase }, { on := 1, ground := Go.Ground.phase }, { on := 2, ground := Go.Ground.phase }, { on := 3, ground := Go.Ground.phase }, { on := 4, ground := Go.Ground.phase }, { on := 5, ground := Go.Ground.phase }, { on := 6, ground := Go.Ground.phase }, { on := 7, ground := Go.Ground.phase }, { on := 8, ground := Go.Ground.phase }, { on := 9, ground := Go.Ground.phase }, { on := 10, ground := Go.Ground.phase }, { on := 11, ground := Go.Ground.phase }], guard := none }) (v := .bool z) rfl (by kernel_rfl) (by kernel_rfl) (by kernel_rfl) (fun _ _ _ h => h) (Or.inl ⟨by rfl, fun w hSw => by (try dsimp only at hSw); go_simp⟩) hS1 ?_
      simp only [Act.put, List.setIfInBounds_toArray, List.set_cons_zero, List.set_cons_succ]
      refine wpAnyH_done (by kernel_rfl) ?_ _
      clear hS1
      generalize World.setCell _ _ _ = w9 at *
      obtain ⟨y0, y1, y2, y3, y4, y5, _⟩ := HC.out _ _ _ _ _ _ _ _ is'
      have k0 := (IsHd.cells hh).1
      have k3 := (IsHd.cells hh).2.2.2.1
      clear c43 c77
      by_cases h1 : kn = 1
      · subst h1
        rw [if_pos rfl] at hnm
        obtain ⟨Fl, hFl⟩ : ∃ Fl, K.fl ar = Fl := ⟨_, rfl⟩
        rw [hFl] at hnm hfl
        simp only [hFl] at c83
        clear hFl
        go_upto_region 7 with (first
          | (go_at_call 61; with_reducible refine (c83 _).mono ?_; rintro e w10 ⟨rfl, b1⟩; replace is' := is'.below b1; clear b1 k0 k3 y0 y1 y2 y3 y4 y5 hh))
        go_loopw [31] (fun i wr => ∃ (n : Nat) (v : Value), n ≤ Fl ∧ i = .int .i64 n ∧ Nv w wr K bl bc bw bs b off cap s v v (ndL K X s n)) (fun i _ => Fl - (intOf i).toNat)
        case atStart => exact ⟨0, _, Nat.zero_le _, rfl, is'⟩
        case round =>
          clear is'
          obtain ⟨n1, v, hn, rfl, is⟩ := hrel
          by_cases hl : n1 < Fl
          · have hl1 : (n1 : Int) < (Fl : Int) := by omega
            have cc := c82.out _ _ _ _ _ _ _ is n1 (by omega) (by rw [ndL_len]; omega)
            rw [ndL_succ] at cc
            have e3 : IntKind.i64.wrap ((n1 : Int) + 1) = ((n1 + 1 : Nat) : Int) := by rw [IntKind.wrap_i64]; omega
            generalize hk2 : n1 + 1 = n2 at *
            clear c83
            go_wp2_with (first
              | (go_at_call 59; with_reducible refine cc.mono ?_; rintro e w11 ⟨rfl, v', is'⟩))
            go_roundw
            case rel => exact ⟨n2, v', by omega, rfl, is'⟩
            case measure => simp [intOf]; omega
          · obtain rfl : n1 = Fl := by omega
            have hl1 : ¬ (n1 : Int) < (n1 : Int) := by omega
            obtain ⟨ad, cp, hv, _⟩ := is.own.form
            have l0 := is.l.1
            rw [hv] at l0
            clear c83
            go_wp2
            go_ret
            refine ⟨_, rfl, ?_, ?_, is.bel⟩
            · have ho := is.own
              rw [hv] at ho
              rw [hnm.out]
              exact ho
            · intro g hg
              exact (is.og g (by rw [hv]; exact hg)).1
      · by_cases h2 : kn = 2
        · subst h2
          rw [if_neg (by omega), if_pos rfl] at hnm
          have cc := c82.out _ _ _ _ _ _ _ is' 0 (by omega) (by simp)
          rw [show ((0 : Nat) : Int) = 0 from rfl] at cc
          have cd := hid1 (fun w11 v is1 => c82.out bl bc bw bs w11 v _ is1 2 (by omega) (by simp : ([] ++ [K.nm (X.getD (K.bd s 0) 0)]).length < 900000))
          rw [show ((2 : Nat) : Int) = 2 from rfl] at cd
          rw [show ((2 : Nat) : Int) = 2 from rfl] at k0
          clear c83
          go_wp2_with (first
            | (go_at_call 59; with_reducible refine cc.mono ?_; rintro e w11 ⟨rfl, v', is1⟩; have ce := cd.out _ _ is1; clear k0 k3 y0 y1 y2 y3 y4 y5)
            | (go_at_call 59; with_reducible refine ce.mono ?_; rintro e w12 ⟨rfl, v2, is2⟩; obtain ⟨ad, cp, hv, _⟩ := is2.own.form; have l0 := is2.l.1; rw [hv] at l0))
          go_ret
          refine ⟨_, rfl, ?_, ?_, is2.bel⟩
          · have ho := is2.own
            rw [hv] at ho
            rw [hnm.out]
            exact ho
          · intro g hg
            exact (is2.og g (by rw [hv]; exact hg)).1
        · rw [if_neg h1, if_neg h2] at hnm
          have h1' : ((kn : Int) == 1) = false := by simp; omega
          have h2' : ((kn : Int) == 2) = false := by simp; omega
          have l0 := is'.l.1
          clear c83
          go_wp2
          go_ret
          refine ⟨_, rfl, ?_, ?_, is'.bel⟩
          · rw [hnm.out]; exact IsZ.nil _
          · intro g hg; cases hg

    · go_simp
      have hz := hid1 (new_obj w1 (.cells #[.int .i64 0, .int .i64 0, .bool false, .int .i64 0, .int .i64 0, .int .i64 0] 57))
      have hH := hid1 (is.bel.size)
      replace is := is.below (alloc_below _ (.cells #[.int .i64 0, .int .i64 0, .bool false, .int .i64 0, .int .i64 0, .int .i64 0] 57))
      refine hK.out _ _ (HC.out _ _ _ _ _ _ _ _ is) (fun hS1 => ?_)
      (try simp only [Act.put, List.setIfInBounds_toArray, List.set_cons_zero, List.set_cons_succ])
      clear hK K
      generalize w1.heap.size = H at hz hH ⊢
      generalize w1.alloc (.cells #[.int .i64 0, .int .i64 0, .bool false, .int .i64 0, .int .i64 0, .int .i64 0] 57) = wA at *
      refine wpAnyH_ready (rs := [6]) (by kernel_rfl) (by simp) (AllReadyH.cons (o := { dst := some 20, op := Go.Op.call { callee := Go.Callee.value (Go.Operand.func 50), args := #[Go.Operand.tmp 19], argTypes := #[26] }, type := 58, pos := "found.go:49", after := #[{ on := 5, ground := Go.Ground.data }, { on := 3, ground := Go.Ground.chain }], guard := none }) rfl (fun K hK => ?_) AllReadyH.nil)
      go_simp
      go_at_call 50
      with_reducible refine (c77 _ (is.wt hw.out)).mono ?_
      rintro e w2 ⟨⟨m, n, q, rfl⟩, b1⟩
      (try simp only [])
      replace is := is.below b1
      replace hz := hid1 ((b1.block _ (lt_of_block hz.out)).trans hz.out)
      clear b1
      refine hK.out _ _ (HC.out _ _ _ _ _ _ _ _ is) (fun hS1 => ?_)
      (try simp only [Act.put, List.setIfInBounds_toArray, List.set_cons_zero, List.set_cons_succ])
      clear hK K
      refine wpAnyH_take (i := 7) (oi := { dst := some 13, op := Go.Op.move (Go.Operand.tmp 20), type := 58, pos := "found.go:49", after := #[{ on := 6, ground := Go.Ground.data }], guard := none }) (v := .tuple #[.agg #[.int .i64 (kn : Nat), .int .i64 m, .bool g, .int .i64 (ar : Nat), .int .i64 n, .int .i64 q], .bool z]) rfl (by kernel_rfl) (by kernel_rfl) (by kernel_rfl) (fun _ _ _ h => h) (Or.inl ⟨by rfl, fun w hSw => by (try dsimp only at hSw); go_simp⟩) hS1 ?_
      simp only [Act.put, List.setIfInBounds_toArray, List.set_cons_zero, List.set_cons_succ]
      refine wpAnyH_take (i := 8) (oi := { dst := some 21, op := Go.Op.extract (Go.Operand.tmp 13) 0, type := 57, pos := "found.go:49", after := #[{ on := 7, ground := Go.Ground.data }], guard := none }) (v := .agg #[.int .i64 (kn : Nat), .int .i64 m, .bool g, .int .i64 (ar : Nat), .int .i64 n, .int .i64 q]) rfl (by kernel_rfl) (by kernel_rfl) (by kernel_rfl) (fun _ _ _ h => h) (Or.inl ⟨by rfl, fun w hSw => by (try dsimp only at hSw); go_simp⟩) hS1 ?_
      simp only [Act.put, List.setIfInBounds_toArray, List.set_cons_zero, List.set_cons_succ]
      refine wpAnyH_take (i := 9) (oi := { dst := some 22, op := Go.Op.extract (Go.Operand.tmp 13) 1, type := 4, pos := "found.go:49", after := #[{ on := 7, ground := Go.Ground.data }, { on := 11, ground := Go.Ground.gcOnly Go.Departure.lateStores }], guard := none }) (v := .bool z) rfl (by kernel_rfl) (by kernel_rfl) (by kernel_rfl) (fun _ _ _ h => h) (Or.inl ⟨by rfl, fun w hSw => by (try dsimp only at hSw); go_simp⟩) hS1 ?_
      simp only [Act.put, List.setIfInBounds_toArray, List.set_cons_zero, List.set_cons_succ]
      refine wpAnyH_ready (rs := [11]) (by kernel_rfl) (by simp) (AllReadyH.cons (o := { dst := none, op := Go.Op.store 57 (Go.Operand.tmp 9) (Go.Operand.tmp 21), type := 0, pos := "found.go:49", after := #[{ on := 10, ground := Go.Ground.data }, { on := 8, ground := Go.Ground.data }, { on := 6, ground := Go.Ground.chain }, { on := 0, ground := Go.Ground.phase }, { on := 1, ground := Go.Ground.phase }, { on := 2, ground := Go.Ground.phase }, { on := 3, ground := Go.Ground.phase }, { on := 4, ground := Go.Ground.phase }, { on := 5, ground := Go.Ground.phase }, { on := 6, ground := Go.Ground.phase }, { on := 7, ground := Go.Ground.phase }, { on := 8, ground := Go.Ground.phase }, { on := 9, ground := Go.Ground.textOnly Go.Departure.lateStores }, { on := 10, ground := Go.Ground.phase }], guard := none }) rfl (fun K hK => ?_) AllReadyH.nil)
      have x := zero_cells hz.out
      have x0 := x.1.1
      have x1 := x.1.2.1
      have x2 := x.1.2.2.1
      have x3 := x.1.2.2.2.1
      have x4 := x.1.2.2.2.2.1
      have x5 := x.1.2.2.2.2.2
      have ff := x.2
      clear x
      go_simp
      have sx := is.six hz.out hH.out (.int .i64 (kn : Nat)) (.int .i64 m) (.bool g) (.int .i64 (ar : Nat)) (.int .i64 n) (.int .i64 q)
      have is' := sx.1
      have hh := sx.2
      clear sx
      refine hK.out _ _ (HC.out _ _ _ _ _ _ _ _ is') (fun hS1 => ?_)
      (try simp only [Act.put, List.setIfInBounds_toArray, List.set_cons_zero, List.set_cons_succ])
      clear hK K x0 x1 x2 x3 x4 x5 ff hz hH is
      refine wpAnyH_take (i := 12) (oi := { dst := some 10, op := Go.Op.assign (Go.Operand.tmp 22), type := 4, pos := "found.go:49", after := #[{ on := 9, ground := Go.Ground.data }, { on := 11, ground := Go.Ground.chain }, { on := 0, ground := Go.Ground.phase }, { on := 1, ground := Go.Ground.phase }, { on := 2, ground := Go.Ground.phase }, { on := 3, ground := Go.Ground.phase }, { on := 4, ground := Go.Ground.phase }, { on := 5, ground := Go.Ground.phase }, { on := 6, ground := Go.Ground.phase }, { on := 7, ground := Go.Ground.phase }, { on := 8, ground := Go.Ground.phase }, { on := 9, ground := Go.Ground.phase }, { on := 10, ground := Go.Ground.phase }, { on := 11, ground := Go.Ground.phase }], guard := none }) (v := .bool z) rfl (by kernel_rfl) (by kernel_rfl) (by kernel_rfl) (fun _ _ _ h => h) (Or.inl ⟨by rfl, fun w hSw => by (try dsimp only at hSw); go_simp⟩) hS1 ?_
      simp only [Act.put, List.setIfInBounds_toArray, List.set_cons_zero, List.set_cons_succ]
      refine wpAnyH_done (by kernel_rfl) ?_ _
      clear hS1
      generalize World.setCell _ _ _ = w9 at *
      obtain ⟨y0, y1, y2, y3, y4, y5, _⟩ := HC.out _ _ _ _ _ _ _ _ is'
      have k0 := (IsHd.cells hh).1
      have k3 := (IsHd.cells hh).2.2.2.1
      clear c43 c77
      by_cases h1 : kn = 1
      · subst h1
        rw [if_pos rfl] at hnm
        obtain ⟨Fl, hFl⟩ : ∃ Fl, K.fl ar = Fl := ⟨_, rfl⟩
        rw [hFl] at hnm hfl
        simp only [hFl] at c83
        clear hFl
        go_upto_region 7 with (first
          | (go_at_call 61; with_reducible refine (c83 _).mono ?_; rintro e w10 ⟨rfl, b1⟩; replace is' := is'.below b1; clear b1 k0 k3 y0 y1 y2 y3 y4 y5 hh))
        go_loopw [31] (fun i wr => ∃ (n : Nat) (v : Value), n ≤ Fl ∧ i = .int .i64 n ∧ Nv w wr K bl bc bw bs b off cap s v v (ndL K X s n)) (fun i _ => Fl - (intOf i).toNat)
        case atStart => exact ⟨0, _, Nat.zero_le _, rfl, is'⟩
        case round =>
          clear is'
          obtain ⟨n1, v, hn, rfl, is⟩ := hrel
          by_cases hl : n1 < Fl
          · have hl1 : (n1 : Int) < (Fl : Int) := by omega
            have cc := c82.out _ _ _ _ _ _ _ is n1 (by omega) (by rw [ndL_len]; omega)
            rw [ndL_succ] at cc
            have e3 : IntKind.i64.wrap ((n1 : Int) + 1) = ((n1 + 1 : Nat) : Int) := by rw [IntKind.wrap_i64]; omega
            generalize hk2 : n1 + 1 = n2 at *
            clear c83
            go_wp2_with (first
              | (go_at_call 59; with_reducible refine cc.mono ?_; rintro e w11 ⟨rfl, v', is'⟩))
            go_roundw
            case rel => exact ⟨n2, v', by omega, rfl, is'⟩
            case measure => simp [intOf]; omega
          · obtain rfl : n1 = Fl := by omega
            have hl1 : ¬ (n1 : Int) < (n1 : Int) := by omega
            obtain ⟨ad, cp, hv, _⟩ := is.own.form
            have l0 := is.l.1
            rw [hv] at l0
            clear c83
            go_wp2
            go_ret
            refine ⟨_, rfl, ?_, ?_, is.bel⟩
            · have ho := is.own
              rw [hv] at ho
              rw [hnm.out]
              exact ho
            · intro g hg
              exact (is.og g (by rw [hv]; exact hg)).1
      · by_cases h2 : kn = 2
        · subst h2
          rw [if_neg (by omega), if_pos rfl] at hnm
          have cc := c82.out _ _ _ _ _ _ _ is' 0 (by omega) (by simp)
          rw [show ((0 : Nat) : Int) = 0 from rfl] at cc
          have cd := hid1 (fun w11 v is1 => c82.out bl bc bw bs w11 v _ is1 2 (by omega) (by simp : ([] ++ [K.nm (X.getD (K.bd s 0) 0)]).length < 900000))
          rw [show ((2 : Nat) : Int) = 2 from rfl] at cd
          rw [show ((2 : Nat) : Int) = 2 from rfl] at k0
          clear c83
          go_wp2_with (first
            | (go_at_call 59; with_reducible refine cc.mono ?_; rintro e w11 ⟨rfl, v', is1⟩; have ce := cd.out _ _ is1; clear k0 k3 y0 y1 y2 y3 y4 y5)
            | (go_at_call 59; with_reducible refine ce.mono ?_; rintro e w12 ⟨rfl, v2, is2⟩; obtain ⟨ad, cp, hv, _⟩ := is2.own.form; have l0 := is2.l.1; rw [hv] at l0))
          go_ret
          refine ⟨_, rfl, ?_, ?_, is2.bel⟩
          · have ho := is2.own
            rw [hv] at ho
            rw [hnm.out]
            exact ho
          · intro g hg
            exact (is2.og g (by rw [hv]; exact hg)).1
        · rw [if_neg h1, if_neg h2] at hnm
          have h1' : ((kn : Int) == 1) = false := by simp; omega
          have h2' : ((kn : Int) == 2) = false := by simp; omega
          have l0 := is'.l.1
          clear c83
          go_wp2
          go_ret
          refine ⟨_, rfl, ?_, ?_, is'.bel⟩
          · rw [hnm.out]; exact IsZ.nil _
          · intro g hg; cases hg


  · go_simp
    have hz := hid1 (new_obj w0 (.cells #[.int .i64 0, .int .i64 0, .bool false, .int .i64 0, .int .i64 0, .int .i64 0] 57))
    have hH := hid1 (is.bel.size)
    replace is := is.below (alloc_below _ (.cells #[.int .i64 0, .int .i64 0, .bool false, .int .i64 0, .int .i64 0, .int .i64 0] 57))
    refine hK.out _ _ (HC.out _ _ _ _ _ _ _ _ is) (fun hS1 => ?_)
    (try simp only [Act.put, List.setIfInBounds_toArray, List.set_cons_zero, List.set_cons_succ])
    clear hK K
    generalize w0.heap.size = H at hz hH ⊢
    generalize w0.alloc (.cells #[.int .i64 0, .int .i64 0, .bool false, .int .i64 0, .int .i64 0, .int .i64 0] 57) = wA at *
    refine wpAnyH_ready (rs := [3]) (by kernel_rfl) (by simp) (AllReadyH.cons (o := { dst := some 17, op := Go.Op.call { callee := Go.Callee.value (Go.Operand.func 19), args := #[Go.Operand.tmp 15, Go.Operand.tmp 16], argTypes := #[23, 3] }, type := 3, pos := "found.go:49", after := #[{ on := 1, ground := Go.Ground.data }, { on := 2, ground := Go.Ground.data }], guard := none }) rfl (fun K hK => ?_) AllReadyH.nil)
    go_simp
    go_at_call 19
    with_reducible refine (c43 _).mono ?_
    rintro e w1 ⟨rfl, b1⟩
    (try simp only [])
    replace is := is.below b1
    replace hz := hid1 ((b1.block _ (lt_of_block hz.out)).trans hz.out)
    clear b1
    refine hK.out _ _ (HC.out _ _ _ _ _ _ _ _ is) (fun hS1 => ?_)
    (try simp only [Act.put, List.setIfInBounds_toArray, List.set_cons_zero, List.set_cons_succ])
    clear hK K
    refine wpAnyH_take (i := 4) (oi := { dst := some 18, op := Go.Op.indexAddr 25 (Go.Operand.tmp 14) (Go.Operand.tmp 17), type := 0, pos := "found.go:49", after := #[{ on := 0, ground := Go.Ground.data }, { on := 3, ground := Go.Ground.data }], guard := none }) (v := .pointer (some ⟨b, off + L, none⟩)) rfl (by kernel_rfl) (by kernel_rfl) (by kernel_rfl) (fun _ _ _ h => h) (Or.inl ⟨by rfl, fun w hSw => by (try dsimp only at hSw); go_simp⟩) hS1 ?_
    simp only [Act.put, List.setIfInBounds_toArray, List.set_cons_zero, List.set_cons_succ]
    refine wpAnyH_take (i := 5) (oi := { dst := some 19, op := Go.Op.load 26 (Go.Operand.tmp 18), type := 26, pos := "found.go:49", after := #[{ on := 4, ground := Go.Ground.data }], guard := none }) (v := .int .u64 (W : Nat)) rfl (by kernel_rfl) (by kernel_rfl) (by kernel_rfl) (fun _ _ _ h => h) (Or.inl ⟨by rfl, fun w hSw => by (try dsimp only at hSw); go_simp⟩) hS1 ?_
    simp only [Act.put, List.setIfInBounds_toArray, List.set_cons_zero, List.set_cons_succ]
    refine wpAnyH_ready (rs := [6]) (by kernel_rfl) (by simp) (AllReadyH.cons (o := { dst := some 20, op := Go.Op.call { callee := Go.Callee.value (Go.Operand.func 50), args := #[Go.Operand.tmp 19], argTypes := #[26] }, type := 58, pos := "found.go:49", after := #[{ on := 5, ground := Go.Ground.data }, { on := 3, ground := Go.Ground.chain }], guard := none }) rfl (fun K hK => ?_) AllReadyH.nil)
    go_simp
    go_at_call 50
    with_reducible refine (c77 _ (is.wt hw.out)).mono ?_
    rintro e w2 ⟨⟨m, n, q, rfl⟩, b1⟩
    (try simp only [])
    replace is := is.below b1
    replace hz := hid1 ((b1.block _ (lt_of_block hz.out)).trans hz.out)
    clear b1
    refine hK.out _ _ (HC.out _ _ _ _ _ _ _ _ is) (fun hS1 => ?_)
    (try simp only [Act.put, List.setIfInBounds_toArray, List.set_cons_zero, List.set_cons_succ])
    clear hK K
    refine wpAnyH_take (i := 7) (oi := { dst := some 13, op := Go.Op.move (Go.Operand.tmp 20), type := 58, pos := "found.go:49", after := #[{ on := 6, ground := Go.Ground.data }], guard := none }) (v := .tuple #[.agg #[.int .i64 (kn : Nat), .int .i64 m, .bool g, .int .i64 (ar : Nat), .int .i64 n, .int .i64 q], .bool z]) rfl (by kernel_rfl) (by kernel_rfl) (by kernel_rfl) (fun _ _ _ h => h) (Or.inl ⟨by rfl, fun w hSw => by (try dsimp only at hSw); go_simp⟩) hS1 ?_
    simp only [Act.put, List.setIfInBounds_toArray, List.set_cons_zero, List.set_cons_succ]
    refine wpAnyH_take (i := 8) (oi := { dst := some 21, op := Go.Op.extract (Go.Operand.tmp 13) 0, type := 57, pos := "found.go:49", after := #[{ on := 7, ground := Go.Ground.data }], guard := none }) (v := .agg #[.int .i64 (kn : Nat), .int .i64 m, .bool g, .int .i64 (ar : Nat), .int .i64 n, .int .i64 q]) rfl (by kernel_rfl) (by kernel_rfl) (by kernel_rfl) (fun _ _ _ h => h) (Or.inl ⟨by rfl, fun w hSw => by (try dsimp only at hSw); go_simp⟩) hS1 ?_
    simp only [Act.put, List.setIfInBounds_toArray, List.set_cons_zero, List.set_cons_succ]
    refine wpAnyH_take (i := 9) (oi := { dst := some 22, op := Go.Op.extract (Go.Operand.tmp 13) 1, type := 4, pos := "found.go:49", after := #[{ on := 7, ground := Go.Ground.data }, { on := 11, ground := Go.Ground.gcOnly Go.Departure.lateStores }], guard := none }) (v := .bool z) rfl (by kernel_rfl) (by kernel_rfl) (by kernel_rfl) (fun _ _ _ h => h) (Or.inl ⟨by rfl, fun w hSw => by (try dsimp only at hSw); go_simp⟩) hS1 ?_
    simp only [Act.put, List.setIfInBounds_toArray, List.set_cons_zero, List.set_cons_succ]
    refine wpAnyH_ready (rs := [11]) (by kernel_rfl) (by simp) (AllReadyH.cons (o := { dst := none, op := Go.Op.store 57 (Go.Operand.tmp 9) (Go.Operand.tmp 21), type := 0, pos := "found.go:49", after := #[{ on := 10, ground := Go.Ground.data }, { on := 8, ground := Go.Ground.data }, { on := 6, ground := Go.Ground.chain }, { on := 0, ground := Go.Ground.phase }, { on := 1, ground := Go.Ground.phase }, { on := 2, ground := Go.Ground.phase }, { on := 3, ground := Go.Ground.phase }, { on := 4, ground := Go.Ground.phase }, { on := 5, ground := Go.Ground.phase }, { on := 6, ground := Go.Ground.phase }, { on := 7, ground := Go.Ground.phase }, { on := 8, ground := Go.Ground.phase }, { on := 9, ground := Go.Ground.textOnly Go.Departure.lateStores }, { on := 10, ground := Go.Ground.phase }], guard := none }) rfl (fun K hK => ?_) AllReadyH.nil)
    have x := zero_cells hz.out
    have x0 := x.1.1
    have x1 := x.1.2.1
    have x2 := x.1.2.2.1
    have x3 := x.1.2.2.2.1
    have x4 := x.1.2.2.2.2.1
    have x5 := x.1.2.2.2.2.2
    have ff := x.2
    clear x
    go_simp
    have sx := is.six hz.out hH.out (.int .i64 (kn : Nat)) (.int .i64 m) (.bool g) (.int .i64 (ar : Nat)) (.int .i64 n) (.int .i64 q)
    have is' := sx.1
    have hh := sx.2
    clear sx
    refine hK.out _ _ (HC.out _ _ _ _ _ _ _ _ is') (fun hS1 => ?_)
    (try simp only [Act.put, List.setIfInBounds_toArray, List.set_cons_zero, List.set_cons_succ])
    clear hK K x0 x1 x2 x3 x4 x5 ff hz hH is
    refine wpAnyH_take (i := 12) (oi := { dst := some 10, op := Go.Op.assign (Go.Operand.tmp 22), type := 4, pos := "found.go:49", after := #[{ on := 9, ground := Go.Ground.data }, { on := 11, ground := Go.Ground.chain }, { on := 0, ground := Go.Ground.phase }, { on := 1, ground := Go.Ground.phase }, { on := 2, ground := Go.Ground.phase }, { on := 3, ground := Go.Ground.phase }, { on := 4, ground := Go.Ground.phase }, { on := 5, ground := Go.Ground.phase }, { on := 6, ground := Go.Ground.phase }, { on := 7, ground := Go.Ground.phase }, { on := 8, ground := Go.Ground.phase }, { on := 9, ground := Go.Ground.phase }, { on := 10, ground := Go.Ground.phase }, { on := 11, ground := Go.Ground.phase }], guard := none }) (v := .bool z) rfl (by kernel_rfl) (by kernel_rfl) (by kernel_rfl) (fun _ _ _ h => h) (Or.inl ⟨by rfl, fun w hSw => by (try dsimp only at hSw); go_simp⟩) hS1 ?_
    simp only [Act.put, List.setIfInBounds_toArray, List.set_cons_zero, List.set_cons_succ]
    refine wpAnyH_done (by kernel_rfl) ?_ _
    clear hS1
    generalize World.setCell _ _ _ = w9 at *
    obtain ⟨y0, y1, y2, y3, y4, y5, _⟩ := HC.out _ _ _ _ _ _ _ _ is'
    have k0 := (IsHd.cells hh).1
    have k3 := (IsHd.cells hh).2.2.2.1
    clear c43 c77
    by_cases h1 : kn = 1
    · subst h1
      rw [if_pos rfl] at hnm
      obtain ⟨Fl, hFl⟩ : ∃ Fl, K.fl ar = Fl := ⟨_, rfl⟩
      rw [hFl] at hnm hfl
      simp only [hFl] at c83
      clear hFl
      go_upto_region 7 with (first
        | (go_at_call 61; with_reducible refine (c83 _).mono ?_; rintro e w10 ⟨rfl, b1⟩; replace is' := is'.below b1; clear b1 k0 k3 y0 y1 y2 y3 y4 y5 hh))
      go_loopw [31] (fun i wr => ∃ (n : Nat) (v : Value), n ≤ Fl ∧ i = .int .i64 n ∧ Nv w wr K bl bc bw bs b off cap s v v (ndL K X s n)) (fun i _ => Fl - (intOf i).toNat)
      case atStart => exact ⟨0, _, Nat.zero_le _, rfl, is'⟩
      case round =>
        clear is'
        obtain ⟨n1, v, hn, rfl, is⟩ := hrel
        by_cases hl : n1 < Fl
        · have hl1 : (n1 : Int) < (Fl : Int) := by omega
          have cc := c82.out _ _ _ _ _ _ _ is n1 (by omega) (by rw [ndL_len]; omega)
          rw [ndL_succ] at cc
          have e3 : IntKind.i64.wrap ((n1 : Int) + 1) = ((n1 + 1 : Nat) : Int) := by rw [IntKind.wrap_i64]; omega
          generalize hk2 : n1 + 1 = n2 at *
          clear c83
          go_wp2_with (first
            | (go_at_call 59; with_reducible refine cc.mono ?_; rintro e w11 ⟨rfl, v', is'⟩))
          go_roundw
          case rel => exact ⟨n2, v', by omega, rfl, is'⟩
          case measure => simp [intOf]; omega
        · obtain rfl : n1 = Fl := by omega
          have hl1 : ¬ (n1 : Int) < (n1 : Int) := by omega
          obtain ⟨ad, cp, hv, _⟩ := is.own.form
          have l0 := is.l.1
          rw [hv] at l0
          clear c83
          go_wp2
          go_ret
          refine ⟨_, rfl, ?_, ?_, is.bel⟩
          · have ho := is.own
            rw [hv] at ho
            rw [hnm.out]
            exact ho
          · intro g hg
            exact (is.og g (by rw [hv]; exact hg)).1
    · by_cases h2 : kn = 2
      · subst h2
        rw [if_neg (by omega), if_pos rfl] at hnm
        have cc := c82.out _ _ _ _ _ _ _ is' 0 (by omega) (by simp)
        rw [show ((0 : Nat) : Int) = 0 from rfl] at cc
        have cd := hid1 (fun w11 v is1 => c82.out bl bc bw bs w11 v _ is1 2 (by omega) (by simp : ([] ++ [K.nm (X.getD (K.bd s 0) 0)]).length < 900000))
        rw [show ((2 : Nat) : Int) = 2 from rfl] at cd
        rw [show ((2 : Nat) : Int) = 2 from rfl] at k0
        clear c83
        go_wp2_with (first
          | (go_at_call 59; with_reducible refine cc.mono ?_; rintro e w11 ⟨rfl, v', is1⟩; have ce := cd.out _ _ is1; clear k0 k3 y0 y1 y2 y3 y4 y5)
          | (go_at_call 59; with_reducible refine ce.mono ?_; rintro e w12 ⟨rfl, v2, is2⟩; obtain ⟨ad, cp, hv, _⟩ := is2.own.form; have l0 := is2.l.1; rw [hv] at l0))
        go_ret
        refine ⟨_, rfl, ?_, ?_, is2.bel⟩
        · have ho := is2.own
          rw [hv] at ho
          rw [hnm.out]
          exact ho
        · intro g hg
          exact (is2.og g (by rw [hv]; exact hg)).1
      · rw [if_neg h1, if_neg h2] at hnm
        have h1' : ((kn : Int) == 1) = false := by simp; omega
        have h2' : ((kn : Int) == 2) = false := by simp; omega
        have l0 := is'.l.1
        clear c83
        go_wp2
        go_ret
        refine ⟨_, rfl, ?_, ?_, is'.bel⟩
        · rw [hnm.out]; exact IsZ.nil _
        · intro g hg; cases hg


end Go.Proofs.YtcioomopgdhlmaaGreatDoor
