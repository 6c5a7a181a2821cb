/- What mark's names knows of the world. -/
import Derived.Test.YtcioomopgdhlmaaGreatDoorCIn
import Derived.Test.YtcioomopgdhlmaaGreatDoorCKj
import Derived.Deep.RegionHeld
namespace Go.Proofs.YtcioomopgdhlmaaGreatDoor
open Go.RowKit
open Mm (IsMem MS touched Only IsWords)
open Hh (WT okW wordOf IsHd)

/-- Blocks that names made: the list's variable (u in it), the config, the words' variable, the slot; an own list v of F. -/
structure Nv (w wr : World) (K : Cf) (bl bc bw bs b off cap s : Nat) (u v : Value) (F : List Int) : Prop where
  cfg : IsCfg wr bc K.S K.a K.C K.D K.g K.k
  ws : wr.heap[bw]? = some (.cells #[.slice (some ⟨b, off, none⟩) K.N cap] 25 (0, 0))
  sl : wr.heap[bs]? = some (.cells #[.int .i64 (s : Nat)] 3 (0, 0))
  ll : wr.heap[bl]? = some (.cells #[u] 45 (0, 0))
  own : IsZ wr v F
  og : ∀ g, v.ownBlock = some g → w.heap.size ≤ g ∧ g ≠ bs
  bel : Below w.heap.size w wr
  nb : w.heap.size ≤ bl
theorem Nv.below {w wr w' : World} {K : Cf} {bl bc bw bs b off cap s : Nat} {u v : Value} {F : List Int} (h : Nv w wr K bl bc bw bs b off cap s u v F) (k : Below wr.heap.size wr w') : Nv w w' K bl bc bw bs b off cap s u v F :=
  ⟨h.cfg.below k, (k.block _ (lt_of_block h.ws)).trans h.ws, (k.block _ (lt_of_block h.sl)).trans h.sl, (k.block _ (lt_of_block h.ll)).trans h.ll, h.own.below k, h.og, seq_below h.bel k, h.nb⟩
theorem IsZ.apart {w : World} {v : Value} {F : List Int} (h : IsZ w v F) {i : Nat} {c : Array Value} {t : TypeId} (hi : w.heap[i]? = some (.cells c t (0, 0))) (ht : t ≠ 3) : v.ownBlock ≠ some i := by
  intro e
  rcases h with ⟨rfl, _⟩ | ⟨g, off, cap, cur, rfl, hh, _⟩
  · cases e
  · obtain rfl : g = i := by simpa [Value.ownBlock] using e
    rw [hh] at hi
    simp at hi
    exact ht hi.2.symm
theorem below_grown {B : Nat} {w wr w2 : World} {g : Option Nat} (h : Below B w wr) (k : wr.grownBy w2 g) (hg : ∀ x, g = some x → B ≤ x) (hB : B ≤ wr.heap.size) : Below B w w2 :=
  ⟨k.os.trans h.os, k.tape.trans h.tape, k.output.trans h.output, Nat.le_trans h.size k.size, fun i hi => (k.block i (by omega) (fun e => by have := hg i e.symm; omega)).trans (h.block i hi)⟩
theorem Nv.grow {w wr w2 : World} {K : Cf} {bl bc bw bs b off cap s : Nat} {u v v' : Value} {F F' : List Int} (h : Nv w wr K bl bc bw bs b off cap s u v F) (hI : IsZ w2 v' F') (k : wr.grownBy w2 v.ownBlock) (hp : v'.ownBlock = v.ownBlock ∨ ∃ g, v'.ownBlock = some g ∧ wr.heap.size ≤ g) : Nv w w2 K bl bc bw bs b off cap s u v' F' := by
  have kb : ∀ {i : Nat} {c : Array Value} {t : TypeId}, wr.heap[i]? = some (.cells c t (0, 0)) → v.ownBlock ≠ some i → w2.heap[i]? = some (.cells c t (0, 0)) := fun hi hn => (k.block _ (lt_of_block hi) (fun e => hn e.symm)).trans hi
  refine ⟨kb h.cfg (h.own.apart h.cfg (by decide)), kb h.ws (h.own.apart h.ws (by decide)), kb h.sl (fun e => (h.og _ e).2 rfl), kb h.ll (h.own.apart h.ll (by decide)), hI, ?_, below_grown h.bel k (fun x hx => (h.og x hx).1) h.bel.size, h.nb⟩
  intro g hg
  rcases hp with hp | ⟨g', hp, hl⟩
  · exact h.og g (hp ▸ hg)
  · obtain rfl : g' = g := by rw [hp] at hg; simpa using hg
    have := h.bel.size
    have := lt_of_block h.sl
    exact ⟨by omega, by omega⟩
theorem Nv.put {w wr : World} {K : Cf} {bl bc bw bs b off cap s : Nat} {u v : Value} {F : List Int} (h : Nv w wr K bl bc bw bs b off cap s u v F) : Nv w (wr.setCell ⟨bl, 0, none⟩ v) K bl bc bw bs b off cap s v v F := by
  have kb : ∀ {i : Nat} {c : Array Value} {t : TypeId}, wr.heap[i]? = some (.cells c t (0, 0)) → t ≠ 45 → (wr.setCell ⟨bl, 0, none⟩ v).heap[i]? = some (.cells c t (0, 0)) := fun {i c t} hi hn => by
    rw [Below.heap_setCell _ _ _ _ (by intro e; have e2 : i = bl := e; subst e2; rw [h.ll] at hi; simp at hi; exact hn hi.2.symm)]
    exact hi
  refine ⟨kb h.cfg (by decide), kb h.ws (by decide), kb h.sl (by decide), ?_, ?_, h.og, h.bel.setCell h.nb _, h.nb⟩
  · have := Mm.heap_setCell_at (o := 0) h.ll v
    simpa using this
  · refine h.own.kept fun g hg => Below.heap_setCell _ _ _ _ ?_
    intro e
    have e2 : g = bl := e
    subst e2
    exact h.own.apart h.ll (by decide) hg
theorem Nv.l {w wr : World} {K : Cf} {bl bc bw bs b off cap s : Nat} {u v : Value} {F : List Int} (h : Nv w wr K bl bc bw bs b off cap s u v F) : wr.cell? ⟨bl, 0, none⟩ = some u ∧ wr.frozen? ⟨bl, 0, none⟩ = false := ⟨by simp [World.cell?, h.ll], by simp [World.frozen?, h.ll]⟩
theorem Nv.rd {w wr : World} {K : Cf} {bl bc bw bs b off cap s : Nat} {u v : Value} {F : List Int} (h : Nv w wr K bl bc bw bs b off cap s u v F) {L W : Nat} (hR : ∀ w', Below w.heap.size w w' → w'.cell? ⟨b, off + L, none⟩ = some (.int .u64 (W : Nat))) :
    wr.cell? ⟨bc, 0, none⟩ = some (.int .i64 (K.S : Nat)) ∧ wr.cell? ⟨bc, 1, none⟩ = some (.int .i64 K.a) ∧ wr.cell? ⟨bc, 2, none⟩ = some (.int .i64 (K.C : Nat)) ∧ wr.cell? ⟨bc, 3, none⟩ = some (.int .i64 (K.D : Nat)) ∧ wr.cell? ⟨bc, 4, none⟩ = some (.int .i64 K.g) ∧ wr.cell? ⟨bc, 5, none⟩ = some (.int .i64 K.k) ∧ wr.cell? ⟨bw, 0, none⟩ = some (.slice (some ⟨b, off, none⟩) K.N cap) ∧ wr.cell? ⟨bs, 0, none⟩ = some (.int .i64 (s : Nat)) ∧ wr.cell? ⟨b, off + L, none⟩ = some (.int .u64 (W : Nat)) := by
  obtain ⟨h0, h1, h2, h3, h4, h5⟩ := h.cfg.cells
  exact ⟨h0, h1, h2, h3, h4, h5, by simp [World.cell?, h.ws], by simp [World.cell?, h.sl], hR wr h.bel⟩
end Go.Proofs.YtcioomopgdhlmaaGreatDoor
/- mark's names: the closure that appends. -/
namespace Go.Proofs.YtcioomopgdhlmaaGreatDoor
open Go.RowKit
open Mm (IsMem MS touched Only IsWords)
open Hh (WT okW wordOf IsHd)

set_option maxHeartbeats 8000000 in
theorem name1 {w w0 : World} {K : Cf} (hK : K.Ok) {bl bc bw bs b off cap s : Nat} {X : List Nat} {v : Value} {F : List Int} (is : Nv w w0 K bl bc bw bs b off cap s v v F) (hR : RdW w b off X) (hX : X.length = K.N) (hlt : ∀ i, X.getD i 0 < 18446744073709551616) (hs : s < K.S) {i : Nat} (hi : i < K.B) (hF : F.length < 900000) :
    Calls Tryz.prog 59 #[.int .i64 (i : Nat), .pointer (some ⟨bl, 0, none⟩), .pointer (some ⟨bc, 0, none⟩), .pointer (some ⟨bw, 0, none⟩), .pointer (some ⟨bs, 0, none⟩)] w0 fun r w' => r = .returned (.tuple #[]) ∧ ∃ v', Nv w w' K bl bc bw bs b off cap s v' v' (F ++ [K.nm (X.getD (K.bd s i) 0)]) := by
  have hL := K.bd_lt hs hi
  have hN := hK.N_b
  have hW := hlt (K.bd s i)
  have hRL : ∀ w', Below w.heap.size w w' → w'.cell? ⟨b, off + K.bd s i, none⟩ = some (.int .u64 (X.getD (K.bd s i) 0 : Nat)) := fun w' h => (hR.below h).2 (K.bd s i) (by omega)
  have c41 := fun w => body_at hK hs hi w
  have c12 := fun w => mnamed_any hK hW w
  have HC := hid1 (fun (wq : World) (u v : Value) (F : List Int) (h : Nv w wq K bl bc bw bs b off cap s u v F) => h.rd hRL)
  have hL1 : ((K.bd s i : Nat) : Int) < (K.N : Int) := by omega
  have hL0 : (0 : Int) ≤ ((K.bd s i : Nat) : Int) := by omega
  unfold Cf.cs at *
  generalize K.bd s i = L at *
  generalize X.getD L 0 = W at *
  generalize K.nm W = y at *
  obtain ⟨ad, cp, rfl, _⟩ := is.own.form
  clear hR hX hlt hK hs hi hW hRL
  go_enter Tryz.func59, Tryz.ntmps59
  go_upto_region 0 with fail
  replace is := is.below (Below.refl _ _).drew
  have hS0 := HC.out _ _ _ _ is
  refine wp_region_held_drew (S := fun wr => wr.cell? ⟨bc, 0, none⟩ = some (.int .i64 (K.S : Nat)) ∧ wr.cell? ⟨bc, 1, none⟩ = some (.int .i64 K.a) ∧ wr.cell? ⟨bc, 2, none⟩ = some (.int .i64 (K.C : Nat)) ∧ wr.cell? ⟨bc, 3, none⟩ = some (.int .i64 (K.D : Nat)) ∧ wr.cell? ⟨bc, 4, none⟩ = some (.int .i64 K.g) ∧ wr.cell? ⟨bc, 5, none⟩ = some (.int .i64 K.k) ∧ wr.cell? ⟨bw, 0, none⟩ = some (.slice (some ⟨b, off, none⟩) K.N cap) ∧ wr.cell? ⟨bs, 0, none⟩ = some (.int .i64 (s : Nat)) ∧ wr.cell? ⟨b, off + L, none⟩ = some (.int .u64 (W : Nat))) (by kernel_rfl) hS0 (fun hS1 => ?_)
  clear hS0
  generalize w0.drew = w0 at *
  refine wpAnyH_take (i := 1) (oi := { dst := some 7, op := Go.Op.load 23 (Go.Operand.tmp 2), type := 23, pos := "found.go:47", after := #[], guard := none }) (v := .agg #[.int .i64 (K.S : Nat), .int .i64 K.a, .int .i64 (K.C : Nat), .int .i64 (K.D : Nat), .int .i64 K.g, .int .i64 K.k]) rfl (by kernel_rfl) (by kernel_rfl) (by kernel_rfl) (fun _ _ _ h => h) (Or.inl ⟨by rfl, fun w hSw => by (try dsimp only at hSw); go_simp⟩) hS1 ?_
  simp only [Act.put, List.setIfInBounds_toArray, List.set_cons_zero, List.set_cons_succ]
  refine wpAnyH_take (i := 2) (oi := { dst := some 8, op := Go.Op.load 25 (Go.Operand.tmp 3), type := 25, pos := "found.go:47", after := #[], guard := none }) (v := .slice (some ⟨b, off, none⟩) K.N cap) rfl (by kernel_rfl) (by kernel_rfl) (by kernel_rfl) (fun _ _ _ h => h) (Or.inl ⟨by rfl, fun w hSw => by (try dsimp only at hSw); go_simp⟩) hS1 ?_
  simp only [Act.put, List.setIfInBounds_toArray, List.set_cons_zero, List.set_cons_succ]
  refine wpAnyH_take (i := 3) (oi := { dst := some 9, op := Go.Op.load 23 (Go.Operand.tmp 2), type := 23, pos := "found.go:47", after := #[], guard := none }) (v := .agg #[.int .i64 (K.S : Nat), .int .i64 K.a, .int .i64 (K.C : Nat), .int .i64 (K.D : Nat), .int .i64 K.g, .int .i64 K.k]) rfl (by kernel_rfl) (by kernel_rfl) (by kernel_rfl) (fun _ _ _ h => h) (Or.inl ⟨by rfl, fun w hSw => by (try dsimp only at hSw); go_simp⟩) hS1 ?_
  simp only [Act.put, List.setIfInBounds_toArray, List.set_cons_zero, List.set_cons_succ]
  refine wpAnyH_take (i := 4) (oi := { dst := some 10, op := Go.Op.load 3 (Go.Operand.tmp 4), type := 3, pos := "found.go:47", after := #[], guard := none }) (v := .int .i64 (s : Nat)) rfl (by kernel_rfl) (by kernel_rfl) (by kernel_rfl) (fun _ _ _ h => h) (Or.inl ⟨by rfl, fun w hSw => by (try dsimp only at hSw); go_simp⟩) hS1 ?_
  simp only [Act.put, List.setIfInBounds_toArray, List.set_cons_zero, List.set_cons_succ]
  refine wpAnyH_take (i := 5) (oi := { dst := some 11, op := Go.Op.move (Go.Operand.tmp 0), type := 3, pos := "found.go:47", after := #[], guard := none }) (v := .int .i64 (i : Nat)) rfl (by kernel_rfl) (by kernel_rfl) (by kernel_rfl) (fun _ _ _ h => h) (Or.inl ⟨by rfl, fun w hSw => by (try dsimp only at hSw); go_simp⟩) hS1 ?_
  simp only [Act.put, List.setIfInBounds_toArray, List.set_cons_zero, List.set_cons_succ]
  refine wpAnyH_ready (rs := [0, 6]) (by kernel_rfl) (by simp) (AllReadyH.cons (o := { dst := some 6, op := Go.Op.load 45 (Go.Operand.tmp 1), type := 45, pos := "found.go:47", after := #[], guard := none }) rfl (fun K hK => ?_) (AllReadyH.cons (o := { dst := some 12, op := Go.Op.call { callee := Go.Callee.value (Go.Operand.func 60), args := #[Go.Operand.tmp 9, Go.Operand.tmp 10, Go.Operand.tmp 11], argTypes := #[23, 3, 3] }, type := 3, pos := "found.go:47", after := #[{ on := 3, ground := Go.Ground.data }, { on := 4, ground := Go.Ground.data }, { on := 5, ground := Go.Ground.data }], guard := none }) rfl (fun K hK => ?_) AllReadyH.nil))
  · have l0 := is.l.1
    go_simp
    refine hK.out _ _ (HC.out _ _ _ _ is) (fun hS1 => ?_)
    (try simp only [Act.put, List.setIfInBounds_toArray, List.set_cons_zero, List.set_cons_succ])
    clear hK K l0
    refine wpAnyH_ready (rs := [6]) (by kernel_rfl) (by simp) (AllReadyH.cons (o := { dst := some 12, op := Go.Op.call { callee := Go.Callee.value (Go.Operand.func 60), args := #[Go.Operand.tmp 9, Go.Operand.tmp 10, Go.Operand.tmp 11], argTypes := #[23, 3, 3] }, type := 3, pos := "found.go:47", after := #[{ on := 3, ground := Go.Ground.data }, { on := 4, ground := Go.Ground.data }, { on := 5, ground := Go.Ground.data }], guard := none }) rfl (fun K hK => ?_) AllReadyH.nil)
    go_simp
    go_at_call 60
    with_reducible refine (c41 _).mono ?_
    rintro e w1 ⟨rfl, b1⟩
    (try simp only [])
    replace is := is.below b1
    clear b1
    refine hK.out _ _ (HC.out _ _ _ _ is) (fun hS1 => ?_)
    (try simp only [Act.put, List.setIfInBounds_toArray, List.set_cons_zero, List.set_cons_succ])
    clear hK K
    refine wpAnyH_take (i := 7) (oi := { dst := some 13, op := Go.Op.indexAddr 25 (Go.Operand.tmp 8) (Go.Operand.tmp 12), type := 0, pos := "found.go:47", after := #[{ on := 2, ground := Go.Ground.data }, { on := 6, ground := Go.Ground.data }], guard := none }) (v := .pointer (some ⟨b, off + L, none⟩)) rfl (by kernel_rfl) (by kernel_rfl) (by kernel_rfl) (fun _ _ _ h => h) (Or.inl ⟨by rfl, fun w hSw => by (try dsimp only at hSw); go_simp⟩) hS1 ?_
    simp only [Act.put, List.setIfInBounds_toArray, List.set_cons_zero, List.set_cons_succ]
    refine wpAnyH_take (i := 8) (oi := { dst := some 14, op := Go.Op.load 26 (Go.Operand.tmp 13), type := 26, pos := "found.go:47", after := #[{ on := 7, ground := Go.Ground.data }], guard := none }) (v := .int .u64 (W : Nat)) rfl (by kernel_rfl) (by kernel_rfl) (by kernel_rfl) (fun _ _ _ h => h) (Or.inl ⟨by rfl, fun w hSw => by (try dsimp only at hSw); go_simp⟩) hS1 ?_
    simp only [Act.put, List.setIfInBounds_toArray, List.set_cons_zero, List.set_cons_succ]
    refine wpAnyH_ready (rs := [9]) (by kernel_rfl) (by simp) (AllReadyH.cons (o := { dst := some 15, op := Go.Op.call { callee := Go.Callee.value (Go.Operand.func 57), args := #[Go.Operand.tmp 7, Go.Operand.tmp 14], argTypes := #[23, 26] }, type := 3, pos := "found.go:47", after := #[{ on := 1, ground := Go.Ground.data }, { on := 8, ground := Go.Ground.data }, { on := 6, ground := Go.Ground.chain }], guard := none }) rfl (fun K hK => ?_) AllReadyH.nil)
    go_simp
    go_at_call 57
    with_reducible refine (c12 _).mono ?_
    rintro e w2 ⟨rfl, b1⟩
    (try simp only [])
    replace is := is.below b1
    clear b1
    refine hK.out _ _ (HC.out _ _ _ _ is) (fun hS1 => ?_)
    (try simp only [Act.put, List.setIfInBounds_toArray, List.set_cons_zero, List.set_cons_succ])
    clear hK K
    refine wpAnyH_ready (rs := [10]) (by kernel_rfl) (by simp) (AllReadyH.cons (o := { dst := some 16, op := Go.Op.buildSlice 45 1 #[(0, Go.Operand.tmp 15)], type := 45, pos := "found.go:47", after := #[{ on := 9, ground := Go.Ground.data }], guard := none }) rfl (fun K hK => ?_) AllReadyH.nil)
    go_simp
    have hnew := hid1 (one_new w2 y 3)
    replace is := is.below (alloc_below _ (.cells #[.int .i64 y] 3))
    refine hK.out _ _ (HC.out _ _ _ _ is) (fun hS1 => ?_)
    (try simp only [Act.put, List.setIfInBounds_toArray, List.set_cons_zero, List.set_cons_succ])
    clear hK K
    generalize w2.heap.size = R at hnew ⊢
    generalize w2.alloc (.cells #[.int .i64 y] 3) = wA at *
    refine wpAnyH_ready (rs := [11]) (by kernel_rfl) (by simp) (AllReadyH.cons (o := { dst := some 17, op := Go.Op.call { callee := Go.Callee.builtin Go.Builtin.append, args := #[Go.Operand.tmp 6, Go.Operand.tmp 16], argTypes := #[45, 45] }, type := 45, pos := "found.go:47", after := #[{ on := 0, ground := Go.Ground.data }, { on := 10, ground := Go.Ground.data }, { on := 9, ground := Go.Ground.chain }], guard := none }) rfl (fun K hK => ?_) AllReadyH.nil)
    refine step_append_ints (by rfl) _ _ (by rfl) _ F [y] (by rfl) is.own ⟨R, 0, none⟩ 1 1 (by rfl) rfl (by simp) hnew.out (by simp; omega) ?_
    intro v' w8 hI hg hp
    replace is := is.grow hI hg hp
    clear hI hg hp hnew
    obtain ⟨ad', cp', rfl, _⟩ := is.own.form
    generalize (F ++ [y]).length = q' at *
    refine hK.out _ _ (HC.out _ _ _ _ is) (fun hS1 => ?_)
    (try simp only [Act.put, List.setIfInBounds_toArray, List.set_cons_zero, List.set_cons_succ])
    clear hK K
    refine wpAnyH_ready (rs := [12]) (by kernel_rfl) (by simp) (AllReadyH.cons (o := { dst := none, op := Go.Op.store 45 (Go.Operand.tmp 1) (Go.Operand.tmp 17), type := 0, pos := "found.go:47", after := #[{ on := 11, ground := Go.Ground.data }, { on := 11, ground := Go.Ground.chain }, { on := 0, ground := Go.Ground.phase }, { on := 1, ground := Go.Ground.phase }, { on := 2, ground := Go.Ground.phase }, { on := 3, ground := Go.Ground.phase }, { on := 4, ground := Go.Ground.phase }, { on := 5, ground := Go.Ground.phase }, { on := 6, ground := Go.Ground.phase }, { on := 7, ground := Go.Ground.phase }, { on := 8, ground := Go.Ground.phase }, { on := 9, ground := Go.Ground.phase }, { on := 10, ground := Go.Ground.phase }, { on := 11, ground := Go.Ground.phase }], guard := none }) rfl (fun K hK => ?_) AllReadyH.nil)
    have l0 := is.l.1
    have f0 := is.l.2
    go_simp
    replace is := is.put
    refine hK.out _ _ (HC.out _ _ _ _ is) (fun hS1 => ?_)
    (try simp only [Act.put, List.setIfInBounds_toArray, List.set_cons_zero, List.set_cons_succ])
    clear hK K l0 f0
    refine wpAnyH_done (by kernel_rfl) ?_ _
    clear hS1
    go_wp2
    go_end0
    exact ⟨rfl, _, is⟩

  · go_simp
    go_at_call 60
    with_reducible refine (c41 _).mono ?_
    rintro e w1 ⟨rfl, b1⟩
    (try simp only [])
    replace is := is.below b1
    clear b1
    refine hK.out _ _ (HC.out _ _ _ _ is) (fun hS1 => ?_)
    (try simp only [Act.put, List.setIfInBounds_toArray, List.set_cons_zero, List.set_cons_succ])
    clear hK K
    refine wpAnyH_take (i := 7) (oi := { dst := some 13, op := Go.Op.indexAddr 25 (Go.Operand.tmp 8) (Go.Operand.tmp 12), type := 0, pos := "found.go:47", after := #[{ on := 2, ground := Go.Ground.data }, { on := 6, ground := Go.Ground.data }], guard := none }) (v := .pointer (some ⟨b, off + L, none⟩)) rfl (by kernel_rfl) (by kernel_rfl) (by kernel_rfl) (fun _ _ _ h => h) (Or.inl ⟨by rfl, fun w hSw => by (try dsimp only at hSw); go_simp⟩) hS1 ?_
    simp only [Act.put, List.setIfInBounds_toArray, List.set_cons_zero, List.set_cons_succ]
    refine wpAnyH_take (i := 8) (oi := { dst := some 14, op := Go.Op.load 26 (Go.Operand.tmp 13), type := 26, pos := "found.go:47", after := #[{ on := 7, ground := Go.Ground.data }], guard := none }) (v := .int .u64 (W : Nat)) rfl (by kernel_rfl) (by kernel_rfl) (by kernel_rfl) (fun _ _ _ h => h) (Or.inl ⟨by rfl, fun w hSw => by (try dsimp only at hSw); go_simp⟩) hS1 ?_
    simp only [Act.put, List.setIfInBounds_toArray, List.set_cons_zero, List.set_cons_succ]
    refine wpAnyH_ready (rs := [0, 9]) (by kernel_rfl) (by simp) (AllReadyH.cons (o := { dst := some 6, op := Go.Op.load 45 (Go.Operand.tmp 1), type := 45, pos := "found.go:47", after := #[], guard := none }) rfl (fun K hK => ?_) (AllReadyH.cons (o := { dst := some 15, op := Go.Op.call { callee := Go.Callee.value (Go.Operand.func 57), args := #[Go.Operand.tmp 7, Go.Operand.tmp 14], argTypes := #[23, 26] }, type := 3, pos := "found.go:47", after := #[{ on := 1, ground := Go.Ground.data }, { on := 8, ground := Go.Ground.data }, { on := 6, ground := Go.Ground.chain }], guard := none }) rfl (fun K hK => ?_) AllReadyH.nil))
    · have l0 := is.l.1
      go_simp
      refine hK.out _ _ (HC.out _ _ _ _ is) (fun hS1 => ?_)
      (try simp only [Act.put, List.setIfInBounds_toArray, List.set_cons_zero, List.set_cons_succ])
      clear hK K l0
      refine wpAnyH_ready (rs := [9]) (by kernel_rfl) (by simp) (AllReadyH.cons (o := { dst := some 15, op := Go.Op.call { callee := Go.Callee.value (Go.Operand.func 57), args := #[Go.Operand.tmp 7, Go.Operand.tmp 14], argTypes := #[23, 26] }, type := 3, pos := "found.go:47", after := #[{ on := 1, ground := Go.Ground.data }, { on := 8, ground := Go.Ground.data }, { on := 6, ground := Go.Ground.chain }], guard := none }) rfl (fun K hK => ?_) AllReadyH.nil)
      go_simp
      go_at_call 57
      with_reducible refine (c12 _).mono ?_
      rintro e w2 ⟨rfl, b1⟩
      (try simp only [])
      replace is := is.below b1
      clear b1
      refine hK.out _ _ (HC.out _ _ _ _ is) (fun hS1 => ?_)
      (try simp only [Act.put, List.setIfInBounds_toArray, List.set_cons_zero, List.set_cons_succ])
      clear hK K
      refine wpAnyH_ready (rs := [10]) (by kernel_rfl) (by simp) (AllReadyH.cons (o := { dst := some 16, op := Go.Op.buildSlice 45 1 #[(0, Go.Operand.tmp 15)], type := 45, pos := "found.go:47", after := #[{ on := 9, ground := Go.Ground.data }], guard := none }) rfl (fun K hK => ?_) AllReadyH.nil)
      go_simp
      have hnew := hid1 (one_new w2 y 3)
      replace is := is.below (alloc_below _ (.cells #[.int .i64 y] 3))
      refine hK.out _ _ (HC.out _ _ _ _ is) (fun hS1 => ?_)
      (try simp only [Act.put, List.setIfInBounds_toArray, List.set_cons_zero, List.set_cons_succ])
      clear hK K
      generalize w2.heap.size = R at hnew ⊢
      generalize w2.alloc (.cells #[.int .i64 y] 3) = wA at *
      refine wpAnyH_ready (rs := [11]) (by kernel_rfl) (by simp) (AllReadyH.cons (o := { dst := some 17, op := Go.Op.call { callee := Go.Callee.builtin Go.Builtin.append, args := #[Go.Operand.tmp 6, Go.Operand.tmp 16], argTypes := #[45, 45] }, type := 45, pos := "found.go:47", after := #[{ on := 0, ground := Go.Ground.data }, { on := 10, ground := Go.Ground.data }, { on := 9, ground := Go.Ground.chain }], guard := none }) rfl (fun K hK => ?_) AllReadyH.nil)
      refine step_append_ints (by rfl) _ _ (by rfl) _ F [y] (by rfl) is.own ⟨R, 0, none⟩ 1 1 (by rfl) rfl (by simp) hnew.out (by simp; omega) ?_
      intro v' w8 hI hg hp
      replace is := is.grow hI hg hp
      clear hI hg hp hnew
      obtain ⟨ad', cp', rfl, _⟩ := is.own.form
      generalize (F ++ [y]).length = q' at *
      refine hK.out _ _ (HC.out _ _ _ _ is) (fun hS1 => ?_)
      (try simp only [Act.put, List.setIfInBounds_toArray, List.set_cons_zero, List.set_cons_succ])
      clear hK K
      refine wpAnyH_ready (rs := [12]) (by kernel_rfl) (by simp) (AllReadyH.cons (o := { dst := none, op := Go.Op.store 45 (Go.Operand.tmp 1) (Go.Operand.tmp 17), type := 0, pos := "found.go:47", after := #[{ on := 11, ground := Go.Ground.data }, { on := 11, ground := Go.Ground.chain }, { on := 0, ground := Go.Ground.phase }, { on := 1, ground := Go.Ground.phase }, { on := 2, ground := Go.Ground.phase }, { on := 3, ground := Go.Ground.phase }, { on := 4, ground := Go.Ground.phase }, { on := 5, ground := Go.Ground.phase }, { on := 6, ground := Go.Ground.phase }, { on := 7, ground := Go.Ground.phase }, { on := 8, ground := Go.Ground.phase }, { on := 9, ground := Go.Ground.phase }, { on := 10, ground := Go.Ground.phase }, { on := 11, ground := Go.Ground.phase }], guard := none }) rfl (fun K hK => ?_) AllReadyH.nil)
      have l0 := is.l.1
      have f0 := is.l.2
      go_simp
      replace is := is.put
      refine hK.out _ _ (HC.out _ _ _ _ is) (fun hS1 => ?_)
      (try simp only [Act.put, List.setIfInBounds_toArray, List.set_cons_zero, List.set_cons_succ])
      clear hK K l0 f0
      refine wpAnyH_done (by kernel_rfl) ?_ _
      clear hS1
      go_wp2
      go_end0
      exact ⟨rfl, _, is⟩

    · go_simp
      go_at_call 57
      with_reducible refine (c12 _).mono ?_
      rintro e w2 ⟨rfl, b1⟩
      (try simp only [])
      replace is := is.below b1
      clear b1
      refine hK.out _ _ (HC.out _ _ _ _ is) (fun hS1 => ?_)
      (try simp only [Act.put, List.setIfInBounds_toArray, List.set_cons_zero, List.set_cons_succ])
      clear hK K
      refine wpAnyH_ready (rs := [0, 10]) (by kernel_rfl) (by simp) (AllReadyH.cons (o := { dst := some 6, op := Go.Op.load 45 (Go.Operand.tmp 1), type := 45, pos := "found.go:47", after := #[], guard := none }) rfl (fun K hK => ?_) (AllReadyH.cons (o := { dst := some 16, op := Go.Op.buildSlice 45 1 #[(0, Go.Operand.tmp 15)], type := 45, pos := "found.go:47", after := #[{ on := 9, ground := Go.Ground.data }], guard := none }) rfl (fun K hK => ?_) AllReadyH.nil))
      · have l0 := is.l.1
        go_simp
        refine hK.out _ _ (HC.out _ _ _ _ is) (fun hS1 => ?_)
        (try simp only [Act.put, List.setIfInBounds_toArray, List.set_cons_zero, List.set_cons_succ])
        clear hK K l0
        refine wpAnyH_ready (rs := [10]) (by kernel_rfl) (by simp) (AllReadyH.cons (o := { dst := some 16, op := Go.Op.buildSlice 45 1 #[(0, Go.Operand.tmp 15)], type := 45, pos := "found.go:47", after := #[{ on := 9, ground := Go.Ground.data }], guard := none }) rfl (fun K hK => ?_) AllReadyH.nil)
        go_simp
        have hnew := hid1 (one_new w2 y 3)
        replace is := is.below (alloc_below _ (.cells #[.int .i64 y] 3))
        refine hK.out _ _ (HC.out _ _ _ _ is) (fun hS1 => ?_)
        (try simp only [Act.put, List.setIfInBounds_toArray, List.set_cons_zero, List.set_cons_succ])
        clear hK K
        generalize w2.heap.size = R at hnew ⊢
        generalize w2.alloc (.cells #[.int .i64 y] 3) = wA at *
        refine wpAnyH_ready (rs := [11]) (by kernel_rfl) (by simp) (AllReadyH.cons (o := { dst := some 17, op := Go.Op.call { callee := Go.Callee.builtin Go.Builtin.append, args := #[Go.Operand.tmp 6, Go.Operand.tmp 16], argTypes := #[45, 45] }, type := 45, pos := "found.go:47", after := #[{ on := 0, ground := Go.Ground.data }, { on := 10, ground := Go.Ground.data }, { on := 9, ground := Go.Ground.chain }], guard := none }) rfl (fun K hK => ?_) AllReadyH.nil)
        refine step_append_ints (by rfl) _ _ (by rfl) _ F [y] (by rfl) is.own ⟨R, 0, none⟩ 1 1 (by rfl) rfl (by simp) hnew.out (by simp; omega) ?_
        intro v' w8 hI hg hp
        replace is := is.grow hI hg hp
        clear hI hg hp hnew
        obtain ⟨ad', cp', rfl, _⟩ := is.own.form
        generalize (F ++ [y]).length = q' at *
        refine hK.out _ _ (HC.out _ _ _ _ is) (fun hS1 => ?_)
        (try simp only [Act.put, List.setIfInBounds_toArray, List.set_cons_zero, List.set_cons_succ])
        clear hK K
        refine wpAnyH_ready (rs := [12]) (by kernel_rfl) (by simp) (AllReadyH.cons (o := { dst := none, op := Go.Op.store 45 (Go.Operand.tmp 1) (Go.Operand.tmp 17), type := 0, pos := "found.go:47", after := #[{ on := 11, ground := Go.Ground.data }, { on := 11, ground := Go.Ground.chain }, { on := 0, ground := Go.Ground.phase }, { on := 1, ground := Go.Ground.phase }, { on := 2, ground := Go.Ground.phase }, { on := 3, ground := Go.Ground.phase }, { on := 4, ground := Go.Ground.phase }, { on := 5, ground := Go.Ground.phase }, { on := 6, ground := Go.Ground.phase }, { on := 7, ground := Go.Ground.phase }, { on := 8, ground := Go.Ground.phase }, { on := 9, ground := Go.Ground.phase }, { on := 10, ground := Go.Ground.phase }, { on := 11, ground := Go.Ground.phase }], guard := none }) rfl (fun K hK => ?_) AllReadyH.nil)
        have l0 := is.l.1
        have f0 := is.l.2
        go_simp
        replace is := is.put
        refine hK.out _ _ (HC.out _ _ _ _ is) (fun hS1 => ?_)
        (try simp only [Act.put, List.setIfInBounds_toArray, List.set_cons_zero, List.set_cons_succ])
        clear hK K l0 f0
        refine wpAnyH_done (by kernel_rfl) ?_ _
        clear hS1
        go_wp2
        go_end0
        exact ⟨rfl, _, is⟩

      · go_simp
        have hnew := hid1 (one_new w2 y 3)
        replace is := is.below (alloc_below _ (.cells #[.int .i64 y] 3))
        refine hK.out _ _ (HC.out _ _ _ _ is) (fun hS1 => ?_)
        (try simp only [Act.put, List.setIfInBounds_toArray, List.set_cons_zero, List.set_cons_succ])
        clear hK K
        generalize w2.heap.size = R at hnew ⊢
        generalize w2.alloc (.cells #[.int .i64 y] 3) = wA at *
        refine wpAnyH_ready (rs := [0]) (by kernel_rfl) (by simp) (AllReadyH.cons (o := { dst := some 6, op := Go.Op.load 45 (Go.Operand.tmp 1), type := 45, pos := "found.go:47", after := #[], guard := none }) rfl (fun K hK => ?_) AllReadyH.nil)
        have l0 := is.l.1
        go_simp
        refine hK.out _ _ (HC.out _ _ _ _ is) (fun hS1 => ?_)
        (try simp only [Act.put, List.setIfInBounds_toArray, List.set_cons_zero, List.set_cons_succ])
        clear hK K l0
        refine wpAnyH_ready (rs := [11]) (by kernel_rfl) (by simp) (AllReadyH.cons (o := { dst := some 17, op := Go.Op.call { callee := Go.Callee.builtin Go.Builtin.append, args := #[Go.Operand.tmp 6, Go.Operand.tmp 16], argTypes := #[45, 45] }, type := 45, pos := "found.go:47", after := #[{ on := 0, ground := Go.Ground.data }, { on := 10, ground := Go.Ground.data }, { on := 9, ground := Go.Ground.chain }], guard := none }) rfl (fun K hK => ?_) AllReadyH.nil)
        refine step_append_ints (by rfl) _ _ (by rfl) _ F [y] (by rfl) is.own ⟨R, 0, none⟩ 1 1 (by rfl) rfl (by simp) hnew.out (by simp; omega) ?_
        intro v' w8 hI hg hp
        replace is := is.grow hI hg hp
        clear hI hg hp hnew
        obtain ⟨ad', cp', rfl, _⟩ := is.own.form
        generalize (F ++ [y]).length = q' at *
        refine hK.out _ _ (HC.out _ _ _ _ is) (fun hS1 => ?_)
        (try simp only [Act.put, List.setIfInBounds_toArray, List.set_cons_zero, List.set_cons_succ])
        clear hK K
        refine wpAnyH_ready (rs := [12]) (by kernel_rfl) (by simp) (AllReadyH.cons (o := { dst := none, op := Go.Op.store 45 (Go.Operand.tmp 1) (Go.Operand.tmp 17), type := 0, pos := "found.go:47", after := #[{ on := 11, ground := Go.Ground.data }, { on := 11, ground := Go.Ground.chain }, { on := 0, ground := Go.Ground.phase }, { on := 1, ground := Go.Ground.phase }, { on := 2, ground := Go.Ground.phase }, { on := 3, ground := Go.Ground.phase }, { on := 4, ground := Go.Ground.phase }, { on := 5, ground := Go.Ground.phase }, { on := 6, ground := Go.Ground.phase }, { on := 7, ground := Go.Ground.phase }, { on := 8, ground := Go.Ground.phase }, { on := 9, ground := Go.Ground.phase }, { on := 10, ground := Go.Ground.phase }, { on := 11, ground := Go.Ground.phase }], guard := none }) rfl (fun K hK => ?_) AllReadyH.nil)
        have l0 := is.l.1
        have f0 := is.l.2
        go_simp
        replace is := is.put
        refine hK.out _ _ (HC.out _ _ _ _ is) (fun hS1 => ?_)
        (try simp only [Act.put, List.setIfInBounds_toArray, List.set_cons_zero, List.set_cons_succ])
        clear hK K l0 f0
        refine wpAnyH_done (by kernel_rfl) ?_ _
        clear hS1
        go_wp2
        go_end0
        exact ⟨rfl, _, is⟩




end Go.Proofs.YtcioomopgdhlmaaGreatDoor
