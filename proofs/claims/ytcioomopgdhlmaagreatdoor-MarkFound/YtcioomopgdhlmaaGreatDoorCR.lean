/- mark's roots. -/
import Derived.Test.YtcioomopgdhlmaaGreatDoorCNc
import Derived.Deep.RegionHeld3
namespace Go.Proofs.YtcioomopgdhlmaaGreatDoor
open Go.RowKit
open Mm (IsMem MS touched Only IsWords)
open Hh (WT okW wordOf IsHd)

/-- What roots knows of the world: its config in a block, an own list. -/
structure Rv (w wr : World) (K : Cf) (bc : Nat) (v : Value) (F : List Int) : Prop where
  cfg : IsCfg wr bc K.S K.a K.C K.D K.g K.k
  own : IsZ wr v F
  og : ∀ g, v.ownBlock = some g → w.heap.size ≤ g
  bel : Below w.heap.size w wr
theorem Rv.below {w wr w' : World} {K : Cf} {bc : Nat} {v : Value} {F : List Int} (h : Rv w wr K bc v F) (k : Below wr.heap.size wr w') : Rv w w' K bc v F := ⟨h.cfg.below k, h.own.below k, h.og, seq_below h.bel k⟩
theorem Rv.grow {w wr w2 : World} {K : Cf} {bc : Nat} {v v' : Value} {F F' : List Int} (h : Rv w wr K bc v F) (hI : IsZ w2 v' F') (k : wr.grownBy w2 v.ownBlock) (hp : v'.ownBlock = v.ownBlock ∨ ∃ g, v'.ownBlock = some g ∧ wr.heap.size ≤ g) : Rv w w2 K bc v' F' := by
  refine ⟨(k.block _ (lt_of_block h.cfg) (fun e => h.own.apart h.cfg (by decide) e.symm)).trans h.cfg, hI, ?_, below_grown h.bel k (fun x hx => h.og x hx) h.bel.size⟩
  intro g hg
  rcases hp with hp | ⟨g', hp, hl⟩
  · exact h.og g (hp ▸ hg)
  · obtain rfl : g' = g := by rw [hp] at hg; simpa using hg
    have := h.bel.size
    omega
theorem Rv.rd {w wr : World} {K : Cf} {bc b off : Nat} {v : Value} {F : List Int} (h : Rv w wr K bc v F) {L W : Nat} (hR : ∀ w', Below w.heap.size w w' → w'.cell? ⟨b, off + L, none⟩ = some (.int .u64 (W : Nat))) : wr.cell? ⟨bc, 0, none⟩ = some (.int .i64 (K.S : Nat)) ∧ wr.cell? ⟨bc, 1, none⟩ = some (.int .i64 K.a) ∧ wr.cell? ⟨bc, 2, none⟩ = some (.int .i64 (K.C : Nat)) ∧ wr.cell? ⟨bc, 3, none⟩ = some (.int .i64 (K.D : Nat)) ∧ wr.cell? ⟨bc, 4, none⟩ = some (.int .i64 K.g) ∧ wr.cell? ⟨bc, 5, none⟩ = some (.int .i64 K.k) ∧ wr.cell? ⟨b, off + L, none⟩ = some (.int .u64 (W : Nat)) := by
  obtain ⟨h0, h1, h2, h3, h4, h5⟩ := h.cfg.cells
  exact ⟨h0, h1, h2, h3, h4, h5, hR wr h.bel⟩
/-- What roots tells. -/
def enL (K : Cf) (X : List Nat) (k n : Nat) : List Int := (List.range n).map fun i => K.nm (X.getD (K.en k i) 0 % 4294967296)
def rtL (K : Cf) (X : List Nat) : Nat → List Int
  | 0 => []
  | k + 1 => rtL K X k ++ enL K X k K.D ++ [K.nm (X.getD (K.st k) 0)]
theorem enL_succ (K : Cf) (X : List Nat) (k n : Nat) : enL K X k n ++ [K.nm (X.getD (K.en k n) 0 % 4294967296)] = enL K X k (n + 1) := by simp [enL, List.range_succ]
theorem enL_len (K : Cf) (X : List Nat) (k n : Nat) : (enL K X k n).length = n := by simp [enL]
theorem rtL_len (K : Cf) (X : List Nat) : ∀ k, (rtL K X k).length = k * (K.D + 1)
  | 0 => by simp [rtL]
  | k + 1 => by simp [rtL, rtL_len K X k, enL_len, Nat.succ_mul]
end Go.Proofs.YtcioomopgdhlmaaGreatDoor
/- mark's roots: the walk. -/
namespace Go.Proofs.YtcioomopgdhlmaaGreatDoor
open Go.RowKit
open Mm (IsMem MS touched Only IsWords)
open Hh (WT okW wordOf IsHd)

set_option maxRecDepth 100000 in
set_option maxHeartbeats 16000000 in
theorem roots_any {w : World} {K : Cf} (hK : K.Ok) {b off cap : Nat} {X : List Nat} (hR : RdW w b off X) (hX : X.length = K.N) (hlt : ∀ i, X.getD i 0 < 18446744073709551616) :
    Calls Tryz.prog 24 #[.agg K.cs, .slice (some ⟨b, off, none⟩) K.N cap] w fun r w' => ∃ v, r = .returned v ∧ IsZ w' v (rtL K X K.C) ∧ (∀ g, v.ownBlock = some g → w.heap.size ≤ g) ∧ Below w.heap.size w w' := by
  have hN := hK.N_b
  have hc8 := hK.c8
  have hd16 := hK.d16
  have is0 : Rv w (w.alloc (.cells #[.int .i64 (K.S : Nat), .int .i64 K.a, .int .i64 (K.C : Nat), .int .i64 (K.D : Nat), .int .i64 K.g, .int .i64 K.k] 23)) K w.heap.size (.slice none 0 0) (rtL K X 0) := ⟨cfg_new w K.S K.a K.C K.D K.g K.k, IsZ.nil _, (fun g hg => by cases hg), alloc_below _ _⟩
  have CE := hid1 (fun (k i : Nat) (hk : k < K.C) (hi : i < K.D) => (⟨fun w => entry_at hK hk hi w, fun w => Tg.entryParts_any (X.getD (K.en k i) 0) (hlt _) w, fun w => mnamed_any hK (W := X.getD (K.en k i) 0 % 4294967296) (by omega) w, fun w' h => (hR.below h).2 (K.en k i) (by rw [hX]; exact K.en_lt hk hi), K.en_lt hk hi⟩ : _ ∧ _ ∧ _ ∧ (∀ w', Below w.heap.size w w' → w'.cell? ⟨b, off + K.en k i, none⟩ = some (.int .u64 (X.getD (K.en k i) 0 : Nat))) ∧ _))
  have CS := hid1 (fun (k : Nat) (hk : k < K.C) => (⟨fun w => start_at hK hk w, fun w => mnamed_any hK (hlt (K.st k)) w, fun w' h => (hR.below h).2 (K.st k) (by rw [hX]; exact K.st_lt hk), K.st_lt hk⟩ : _ ∧ _ ∧ (∀ w', Below w.heap.size w w' → w'.cell? ⟨b, off + K.st k, none⟩ = some (.int .u64 (X.getD (K.st k) 0 : Nat))) ∧ _))
  clear hR hlt hX hK
  unfold Cf.cs at *
  go_enter Tryz.func24, Tryz.ntmps24
  obtain ⟨x0, x1, x2, x3, x4, x5⟩ := is0.cfg.cells
  go_upto_region 3 with fail
  clear x0 x1 x2 x3 x4 x5
  generalize hw0 : w.alloc (.cells #[.int .i64 (K.S : Nat), .int .i64 K.a, .int .i64 (K.C : Nat), .int .i64 (K.D : Nat), .int .i64 K.g, .int .i64 K.k] 23) = w0 at *
  generalize hbc : w.heap.size = bc at is0 ⊢
  replace hbc := hid1 hbc
  clear hw0
  go_loopw [5, 12] (fun l i wr => ∃ (k : Nat), k ≤ K.C ∧ i = .int .i64 k ∧ Rv w wr K bc l (rtL K X k)) (fun _ i _ => K.C - (intOf i).toNat)
  case atStart => exact ⟨0, Nat.zero_le _, rfl, is0⟩
  case round =>
    clear is0
    obtain ⟨k1, hk, rfl, is⟩ := hrel
    by_cases hl : k1 < K.C
    · have hl1 : (k1 : Int) < (K.C : Int) := by omega
      obtain ⟨x0, x1, x2, x3, x4, x5⟩ := is.cfg.cells
      have ez : rtL K X k1 = rtL K X k1 ++ enL K X k1 0 := by simp [enL]
      rw [ez] at is
      clear ez
      go_upto_region 6 with fail
      clear x0 x1 x2 x3 x4 x5
      go_loopw [5, 17] (fun l i wr => ∃ (n : Nat), n ≤ K.D ∧ i = .int .i64 n ∧ Rv w wr K bc l (rtL K X k1 ++ enL K X k1 n)) (fun _ i _ => K.D - (intOf i).toNat)
      case atStart => exact ⟨0, Nat.zero_le _, rfl, is⟩
      case round =>
        clear is
        obtain ⟨n1, hn, rfl, is⟩ := hrel
        by_cases hd : n1 < K.D
        · have hd1 : (n1 : Int) < (K.D : Int) := by omega
          obtain ⟨c31, c30, c12, hRL, hL⟩ := CE.out k1 n1 hl hd
          have hlen : (rtL K X k1 ++ enL K X k1 n1).length + 1 ≤ 1000000 := by
            rw [List.length_append, rtL_len, enL_len]
            have : k1 * (K.D + 1) ≤ 8 * 17 := Nat.mul_le_mul (by omega) (by omega)
            omega
          have hnx : rtL K X k1 ++ enL K X k1 n1 ++ [K.nm (X.getD (K.en k1 n1) 0 % 4294967296)] = rtL K X k1 ++ enL K X k1 (n1 + 1) := by rw [List.append_assoc, enL_succ]
          have e3 : IntKind.i64.wrap ((n1 : Int) + 1) = ((n1 + 1 : Nat) : Int) := by rw [IntKind.wrap_i64]; omega
          generalize hn2 : n1 + 1 = n2 at *
          have hL1 : ((K.en k1 n1 : Nat) : Int) < (K.N : Int) := by omega
          have hL0 : (0 : Int) ≤ ((K.en k1 n1 : Nat) : Int) := by omega
          have hV : X.getD (K.en k1 n1) 0 % 4294967296 < 4294967296 := by omega
          generalize rtL K X k1 ++ enL K X k1 n1 = F at *
          generalize K.en k1 n1 = L at *
          generalize X.getD L 0 = W at *
          generalize W % 4294967296 = V at *
          generalize K.nm V = y at *
          have e1 : IntKind.i64.wrap ((V : Int) - 1 + 1) = (V : Int) := by rw [IntKind.wrap_i64]; omega
          have e2 : IntKind.u64.wrap (V : Int) = (V : Int) := by rw [IntKind.wrap_u64]; omega
          generalize hy0 : (V : Int) - 1 = y0 at *
          clear hy0 hL hV
          replace hlen := hid1 hlen
          replace hnx := hid1 hnx
          replace hRL := hid1 hRL
          have x0 := is.cfg.cells
          obtain ⟨x0, x1, x2, x3, x4, x5⟩ := x0
          go_upto_region 9 with (first
            | (go_at_call 56; with_reducible refine (c31 _).mono ?_; rintro e w1 ⟨rfl, b1⟩; replace is := is.below b1; have xl := hRL.out _ is.bel; clear b1 x0 x1 x2 x3 x4 x5)
            | (go_at_call 55; with_reducible refine (c30 _).mono ?_; rintro e w2 ⟨rfl, b1⟩; replace is := is.below b1; clear b1 xl; obtain ⟨x0, x1, x2, x3, x4, x5⟩ := is.cfg.cells; obtain ⟨ad, cp, hv, _⟩ := is.own.form; generalize F.length = q at hv; subst hv))
          go_upto_region 10 with (first
            | (go_at_call 57; with_reducible refine (c12 _).mono ?_; rintro e w3 ⟨rfl, b1⟩; replace is := is.below b1; clear b1 x0 x1 x2 x3 x4 x5)
            | (at_builtin; refine wpList_append_ints rfl _ _ rfl _ F [y] rfl (is.below (alloc_below _ (.cells #[.int .i64 y] 3))).own ⟨_, 0, none⟩ 1 1 rfl rfl (by simp) (one_new _ _ _) hlen.out ?_; intro v' w8 hI hg hp; replace is := (is.below (alloc_below _ (.cells #[.int .i64 y] 3))).grow hI hg hp; clear hI hg hp; obtain ⟨ad', cp', hv', _⟩ := is.own.form; generalize (F ++ [y]).length = q' at hv'; subst hv'))
          rw [hnx.out] at is
          go_wp2
          go_roundw
          case rel => exact ⟨n2, by omega, rfl, is⟩
          case measure => simp [intOf]; omega
        · obtain rfl : n1 = K.D := by omega
          have hd1 : ¬ (K.D : Int) < (K.D : Int) := by omega
          obtain ⟨c13, c12, hRL, hL⟩ := CS.out k1 hl
          have hlen : (rtL K X k1 ++ enL K X k1 K.D).length + 1 ≤ 1000000 := by
            rw [List.length_append, rtL_len, enL_len]
            have : k1 * (K.D + 1) ≤ 8 * 17 := Nat.mul_le_mul (by omega) (by omega)
            omega
          have hnx : rtL K X k1 ++ enL K X k1 K.D ++ [K.nm (X.getD (K.st k1) 0)] = rtL K X (k1 + 1) := rfl
          have e3 : IntKind.i64.wrap ((k1 : Int) + 1) = ((k1 + 1 : Nat) : Int) := by rw [IntKind.wrap_i64]; omega
          generalize hk2 : k1 + 1 = k2 at *
          have hL1 : ((K.st k1 : Nat) : Int) < (K.N : Int) := by omega
          have hL0 : (0 : Int) ≤ ((K.st k1 : Nat) : Int) := by omega
          generalize rtL K X k1 ++ enL K X k1 K.D = F at *
          generalize K.st k1 = L at *
          generalize X.getD L 0 = W at *
          generalize K.nm W = y at *
          clear hL
          have hF2 := hid1 hlen
          clear hlen
          replace hnx := hid1 hnx
          obtain ⟨ad, cp, hv, _⟩ := is.own.form
          generalize F.length = q at hv
          subst hv
          have HS := hid1 (fun (v : Value) (F : List Int) (wq : World) (h : Rv w wq K bc v F) => h.rd hRL)
          clear hRL
          go_upto_region 11 with fail
          rename_i wz
          replace is := is.below (Below.refl _ _).drew
          have hS0 := HS.out _ _ _ is
          refine wp_region_held_drew (S := fun wr => wr.cell? ⟨bc, 0, none⟩ = some (.int .i64 (K.S : Nat)) ∧ wr.cell? ⟨bc, 1, none⟩ = some (.int .i64 K.a) ∧ wr.cell? ⟨bc, 2, none⟩ = some (.int .i64 (K.C : Nat)) ∧ wr.cell? ⟨bc, 3, none⟩ = some (.int .i64 (K.D : Nat)) ∧ wr.cell? ⟨bc, 4, none⟩ = some (.int .i64 K.g) ∧ wr.cell? ⟨bc, 5, none⟩ = some (.int .i64 K.k) ∧ wr.cell? ⟨b, off + L, none⟩ = some (.int .u64 (W : Nat))) (by kernel_rfl) hS0 (fun hS1 => ?_)
          clear hS0
          generalize World.drew _ = w0 at *
          refine wpAnyH_take (i := 0) (oi := { dst := some 40, op := Go.Op.move (Go.Operand.tmp 5), type := 45, pos := "found.go:38", after := #[], guard := none }) (v := .slice ad q cp) rfl (by kernel_rfl) (by kernel_rfl) (by kernel_rfl) (fun _ _ _ h => h) (Or.inl ⟨by rfl, fun w hSw => by (try dsimp only at hSw); go_simp⟩) hS1 ?_
          simp only [Act.put, List.setIfInBounds_toArray, List.set_cons_zero, List.set_cons_succ]
          refine wpAnyH_take (i := 1) (oi := { dst := some 41, op := Go.Op.load 23 (Go.Operand.tmp 2), type := 23, pos := "found.go:38", after := #[], guard := none }) (v := .agg #[.int .i64 (K.S : Nat), .int .i64 K.a, .int .i64 (K.C : Nat), .int .i64 (K.D : Nat), .int .i64 K.g, .int .i64 K.k]) rfl (by kernel_rfl) (by kernel_rfl) (by kernel_rfl) (fun _ _ _ h => h) (Or.inl ⟨by rfl, fun w hSw => by (try dsimp only at hSw); go_simp⟩) hS1 ?_
          simp only [Act.put, List.setIfInBounds_toArray, List.set_cons_zero, List.set_cons_succ]
          refine wpAnyH_take (i := 2) (oi := { dst := some 42, op := Go.Op.move (Go.Operand.tmp 1), type := 25, pos := "found.go:38", after := #[], guard := none }) (v := .slice (some ⟨b, off, none⟩) K.N cap) rfl (by kernel_rfl) (by kernel_rfl) (by kernel_rfl) (fun _ _ _ h => h) (Or.inl ⟨by rfl, fun w hSw => by (try dsimp only at hSw); go_simp⟩) hS1 ?_
          simp only [Act.put, List.setIfInBounds_toArray, List.set_cons_zero, List.set_cons_succ]
          refine wpAnyH_take (i := 3) (oi := { dst := some 43, op := Go.Op.load 23 (Go.Operand.tmp 2), type := 23, pos := "found.go:38", after := #[], guard := none }) (v := .agg #[.int .i64 (K.S : Nat), .int .i64 K.a, .int .i64 (K.C : Nat), .int .i64 (K.D : Nat), .int .i64 K.g, .int .i64 K.k]) rfl (by kernel_rfl) (by kernel_rfl) (by kernel_rfl) (fun _ _ _ h => h) (Or.inl ⟨by rfl, fun w hSw => by (try dsimp only at hSw); go_simp⟩) hS1 ?_
          simp only [Act.put, List.setIfInBounds_toArray, List.set_cons_zero, List.set_cons_succ]
          refine wpAnyH_take (i := 4) (oi := { dst := some 44, op := Go.Op.move (Go.Operand.tmp 6), type := 3, pos := "found.go:38", after := #[], guard := none }) (v := .int .i64 (k1 : Nat)) rfl (by kernel_rfl) (by kernel_rfl) (by kernel_rfl) (fun _ _ _ h => h) (Or.inl ⟨by rfl, fun w hSw => by (try dsimp only at hSw); go_simp⟩) hS1 ?_
          simp only [Act.put, List.setIfInBounds_toArray, List.set_cons_zero, List.set_cons_succ]
          refine wpAnyH_ready (rs := [5]) (by kernel_rfl) (by simp) (AllReadyH.cons (o := { dst := some 45, op := Go.Op.call { callee := Go.Callee.value (Go.Operand.func 58), args := #[Go.Operand.tmp 43, Go.Operand.tmp 44], argTypes := #[23, 3] }, type := 3, pos := "found.go:38", after := #[{ on := 3, ground := Go.Ground.data }, { on := 4, ground := Go.Ground.data }], guard := none }) rfl (fun K hK => ?_) AllReadyH.nil)
          go_simp
          go_at_call 58
          with_reducible refine (c13 _).mono ?_
          rintro e w1 ⟨rfl, b1⟩
          (try simp only [])
          replace is := is.below b1
          clear b1
          refine hK.out _ _ (HS.out _ _ _ is) (fun hS1 => ?_)
          (try simp only [Act.put, List.setIfInBounds_toArray, List.set_cons_zero, List.set_cons_succ])
          clear hK K
          refine wpAnyH_take (i := 6) (oi := { dst := some 46, op := Go.Op.indexAddr 25 (Go.Operand.tmp 42) (Go.Operand.tmp 45), type := 0, pos := "found.go:38", after := #[{ on := 2, ground := Go.Ground.data }, { on := 5, ground := Go.Ground.data }], guard := none }) (v := .pointer (some ⟨b, off + L, none⟩)) rfl (by kernel_rfl) (by kernel_rfl) (by kernel_rfl) (fun _ _ _ h => h) (Or.inl ⟨by rfl, fun w hSw => by (try dsimp only at hSw); go_simp⟩) hS1 ?_
          simp only [Act.put, List.setIfInBounds_toArray, List.set_cons_zero, List.set_cons_succ]
          refine wpAnyH_take (i := 7) (oi := { dst := some 47, op := Go.Op.load 26 (Go.Operand.tmp 46), type := 26, pos := "found.go:38", after := #[{ on := 6, ground := Go.Ground.data }], guard := none }) (v := .int .u64 (W : Nat)) rfl (by kernel_rfl) (by kernel_rfl) (by kernel_rfl) (fun _ _ _ h => h) (Or.inl ⟨by rfl, fun w hSw => by (try dsimp only at hSw); go_simp⟩) hS1 ?_
          simp only [Act.put, List.setIfInBounds_toArray, List.set_cons_zero, List.set_cons_succ]
          refine wpAnyH_ready (rs := [8]) (by kernel_rfl) (by simp) (AllReadyH.cons (o := { dst := some 48, op := Go.Op.call { callee := Go.Callee.value (Go.Operand.func 57), args := #[Go.Operand.tmp 41, Go.Operand.tmp 47], argTypes := #[23, 26] }, type := 3, pos := "found.go:38", after := #[{ on := 1, ground := Go.Ground.data }, { on := 7, ground := Go.Ground.data }, { on := 5, ground := Go.Ground.chain }], guard := none }) rfl (fun K hK => ?_) AllReadyH.nil)
          go_simp
          go_at_call 57
          with_reducible refine (c12 _).mono ?_
          rintro e w2 ⟨rfl, b1⟩
          (try simp only [])
          replace is := is.below b1
          clear b1
          refine hK.out _ _ (HS.out _ _ _ is) (fun hS1 => ?_)
          (try simp only [Act.put, List.setIfInBounds_toArray, List.set_cons_zero, List.set_cons_succ])
          clear hK K
          refine wpAnyH_ready (rs := [9]) (by kernel_rfl) (by simp) (AllReadyH.cons (o := { dst := some 49, op := Go.Op.buildSlice 45 1 #[(0, Go.Operand.tmp 48)], type := 45, pos := "found.go:38", after := #[{ on := 8, ground := Go.Ground.data }], guard := none }) rfl (fun K hK => ?_) AllReadyH.nil)
          go_simp
          have hnew := hid1 (one_new w2 y 3)
          replace is := is.below (alloc_below _ (.cells #[.int .i64 y] 3))
          refine hK.out _ _ (HS.out _ _ _ is) (fun hS1 => ?_)
          (try simp only [Act.put, List.setIfInBounds_toArray, List.set_cons_zero, List.set_cons_succ])
          clear hK K
          generalize w2.heap.size = R at hnew ⊢
          generalize w2.alloc (.cells #[.int .i64 y] 3) = wA at *
          refine wpAnyH_ready (rs := [10]) (by kernel_rfl) (by simp) (AllReadyH.cons (o := { dst := some 50, op := Go.Op.call { callee := Go.Callee.builtin Go.Builtin.append, args := #[Go.Operand.tmp 40, Go.Operand.tmp 49], argTypes := #[45, 45] }, type := 45, pos := "found.go:38", after := #[{ on := 0, ground := Go.Ground.data }, { on := 9, ground := Go.Ground.data }, { on := 8, ground := Go.Ground.chain }], guard := none }) rfl (fun K hK => ?_) AllReadyH.nil)
          refine step_append_ints (by rfl) _ _ (by rfl) _ F [y] (by rfl) is.own ⟨R, 0, none⟩ 1 1 (by rfl) rfl (by simp) hnew.out hF2.out ?_
          intro v' w8 hI hg hp
          replace is := is.grow hI hg hp
          clear hI hg hp hnew
          obtain ⟨ad', cp', hv', _⟩ := is.own.form
          obtain ⟨q', hq'⟩ : ∃ q', (F ++ [y]).length = q' := ⟨_, rfl⟩
          rw [hq'] at hv'
          clear hq'
          subst hv'
          refine hK.out _ _ (HS.out _ _ _ is) (fun hS1 => ?_)
          (try simp only [Act.put, List.setIfInBounds_toArray, List.set_cons_zero, List.set_cons_succ])
          clear hK K
          refine wpAnyH_take (i := 11) (oi := { dst := some 5, op := Go.Op.assign (Go.Operand.tmp 50), type := 45, pos := "found.go:38", after := #[{ on := 10, ground := Go.Ground.data }, { on := 10, ground := Go.Ground.chain }, { on := 0, ground := Go.Ground.phase }, { on := 1, ground := Go.Ground.phase }, { on := 2, ground := Go.Ground.phase }, { on := 3, ground := Go.Ground.phase }, { on := 4, ground := Go.Ground.phase }, { on := 5, ground := Go.Ground.phase }, { on := 6, ground := Go.Ground.phase }, { on := 7, ground := Go.Ground.phase }, { on := 8, ground := Go.Ground.phase }, { on := 9, ground := Go.Ground.phase }, { on := 10, ground := Go.Ground.phase }], guard := none }) (v := .slice ad' q' cp') rfl (by kernel_rfl) (by kernel_rfl) (by kernel_rfl) (fun _ _ _ h => h) (Or.inl ⟨by rfl, fun w hSw => by (try dsimp only at hSw); go_simp⟩) hS1 ?_
          simp only [Act.put, List.setIfInBounds_toArray, List.set_cons_zero, List.set_cons_succ]
          refine wpAnyH_done (by kernel_rfl) ?_ _
          clear hS1 c13 c12

          rw [hnx.out] at is
          go_wp2
          go_roundw
          case rel => exact ⟨k2, by omega, rfl, is⟩
          case measure => simp [intOf]; omega
    · obtain rfl : k1 = K.C := by omega
      have hl1 : ¬ (K.C : Int) < (K.C : Int) := by omega
      obtain ⟨ad, cp, hv, _⟩ := is.own.form
      generalize (rtL K X K.C).length = q at hv
      subst hv
      clear CE CS
      go_wp2
      go_ret
      have hb := hbc.out
      clear hbc
      subst hb
      exact ⟨_, rfl, is.own, is.og, is.bel⟩
end Go.Proofs.YtcioomopgdhlmaaGreatDoor
