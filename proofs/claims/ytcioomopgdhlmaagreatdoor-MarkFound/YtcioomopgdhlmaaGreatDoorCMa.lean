/- NewMark where there is one; the law's marked; the reference's Same. -/
import Derived.Test.YtcioomopgdhlmaaGreatDoorCFc
import Derived.Test.YtcioomopgdhlmaaGreatDoorCAw0
import Derived.Deep.QuietTactic
namespace Go.Proofs.YtcioomopgdhlmaaGreatDoor
open Go.RowKit
open Mm (IsMem MS touched Only IsWords)
open Hh (WT okW wordOf IsHd)

/-- What is marked, slot by slot. -/
def mkL (K : Cf) (X : List Nat) (e n : Nat) : List Value := (List.range n).map fun s => Value.bool (mkdW (X.getD (K.hd s) 0) e)
theorem mkL_succ (K : Cf) (X : List Nat) (e n : Nat) : mkL K X e n ++ [.bool (mkdW (X.getD (K.hd n) 0) e)] = mkL K X e (n + 1) := by simp [mkL, List.range_succ]
theorem own_form {w : World} {base n : Nat} {v : Value} {xs : List Value} (h : w.ownsRow base 4 1 v n xs) : ∃ ad cp, v = .slice ad n cp := by
  rcases h.2 with ⟨rfl, rfl⟩ | ⟨g, cap, cur, rfl, _⟩
  · exact ⟨_, _, rfl⟩
  · exact ⟨_, _, rfl⟩
structure Mv (w wr : World) (K : Cf) (v : Value) (n : Nat) (xs : List Value) : Prop where
  cfg : IsCfg wr w.heap.size K.S K.a K.C K.D K.g K.k
  own : wr.ownsRow (w.heap.size + 1) 4 1 v n xs
  bel : Below w.heap.size w wr
theorem Mv.below {w wr w' : World} {K : Cf} {v : Value} {n : Nat} {xs : List Value} (h : Mv w wr K v n xs) (k : Below wr.heap.size wr w') : Mv w w' K v n xs := ⟨h.cfg.below k, own_below h.own k, seq_below h.bel k⟩
theorem Mv.grow {w wr w2 : World} {K : Cf} {v v' : Value} {n n' : Nat} {xs xs' : List Value} (h : Mv w wr K v n xs) (ho : w2.ownsRow (w.heap.size + 1) 4 1 v' n' xs') (k : wr.grownBy w2 v.ownBlock) : Mv w w2 K v' n' xs' :=
  ⟨(k.block _ (lt_of_block h.cfg) (fun e => by have := (h.own.lt _ e.symm).1; omega)).trans h.cfg, ho, below_grown h.bel k (fun x hx => by have := (h.own.lt _ hx).1; omega) h.bel.size⟩

set_option maxRecDepth 100000 in
set_option maxHeartbeats 4000000 in
theorem lmarked_any {w : World} {K : Cf} (hK : K.Ok) {b off cap e : Nat} {X : List Nat} (hR : RdW w b off X) (hX : X.length = K.N) (hlt : ∀ i, X.getD i 0 < 18446744073709551616) (he : e < 18446744073709551616) :
    Calls Tryz.prog 15 #[.agg K.cs, .slice (some ⟨b, off, none⟩) K.N cap, .int .u64 (e : Nat)] w fun r w' => ∃ v, r = .returned v ∧ w'.ownsRow (w.heap.size + 1) 4 1 v K.S (mkL K X e K.S) ∧ Below w.heap.size w w' := by
  have hN := hK.N_b
  have h64 := hK.s64
  have is : Mv w _ K (.slice none 0 0) 0 (mkL K X e 0) := ⟨cfg_new w K.S K.a K.C K.D K.g K.k, World.ownsRow_nil _ _ _ _, alloc_below _ _⟩
  have HN := hid1 (fun (n : Nat) (hn : n < K.S) => (⟨fun w => rheader_any hK n hn w, fun w => marked_any (hlt (K.hd n)) he w, fun w' h => (hR.below h).2 (K.hd n) (by rw [hX]; exact K.hd_lt hn), K.hd_lt hn⟩ : _ ∧ _ ∧ (∀ w', Below w.heap.size w w' → w'.cell? ⟨b, off + K.hd n, none⟩ = some (.int .u64 (X.getD (K.hd n) 0 : Nat))) ∧ _))
  obtain ⟨i0, hi, hzz⟩ := Option.map_eq_some_iff.1 Tryz.info4
  simp only [Prod.mk.injEq] at hzz
  obtain ⟨hz0, hz1, hz2⟩ := hzz
  have hI := hid1 hi
  have hZ0 := hid1 hz0
  have hZ1 := hid1 hz1
  have hZ2 := hid1 hz2
  clear hK hR hX hlt hi hz0 hz1 hz2
  unfold Cf.cs at *
  go_enter Tryz.func15, Tryz.ntmps15
  go_upto_region 3 with fail
  generalize w.alloc (.cells #[.int .i64 (K.S : Nat), .int .i64 K.a, .int .i64 (K.C : Nat), .int .i64 (K.D : Nat), .int .i64 K.g, .int .i64 K.k] 23) = w0 at *
  go_loopw [7, 8] (fun l i wr => ∃ (n : Nat), n ≤ K.S ∧ i = .int .i64 n ∧ Mv w wr K l n (mkL K X e n)) (fun _ i _ => K.S - (intOf i).toNat)
  case atStart => exact ⟨0, Nat.zero_le _, rfl, is⟩
  case round =>
    clear is
    obtain ⟨n1, hn, rfl, is⟩ := hrel
    obtain ⟨x0, x1, x2, x3, x4, x5⟩ := is.cfg.cells
    obtain ⟨ad, cp, hv⟩ := own_form is.own
    subst hv
    by_cases hl : n1 < K.S
    · have hl1 : (n1 : Int) < (K.S : Int) := by omega
      obtain ⟨c57, c56, hRL, hL⟩ := HN.out n1 hl
      have hnx := hid1 (mkL_succ K X e n1)
      have e3 : IntKind.i64.wrap ((n1 : Int) + 1) = ((n1 + 1 : Nat) : Int) := by rw [IntKind.wrap_i64]; omega
      have hL1 : ((K.hd n1 : Nat) : Int) < (K.N : Int) := by omega
      have hL0 : (0 : Int) ≤ ((K.hd n1 : Nat) : Int) := by omega
      clear hL
      generalize hk2 : n1 + 1 = n2 at *
      replace hk2 := hid1 hk2
      have hbase : Hid (∀ wq, Below w.heap.size w wq → n1 + 1 ≤ maxLen ∧ (n1 + 1) * 1 ≤ 140737488355328) := hid1 (fun _ _ => by unfold maxLen; omega)
      generalize K.hd n1 = L at *
      generalize X.getD L 0 = W at *
      generalize mkdW W e = mk at *
      replace hRL := hid1 hRL
      go_wp2_with (first
        | (go_at_call 38; with_reducible refine (c57 _).mono ?_; rintro r w1 ⟨rfl, b1⟩; replace is := is.below b1; have xl := hRL.out _ is.bel; clear b1 x0 x1 x2 x3 x4 x5)
        | (go_at_call 30; with_reducible refine (c56 _).mono ?_; rintro r w2 ⟨rfl, b1⟩; replace is := is.below b1; clear b1 xl)
        | (at_builtin; refine wpList_append_own _ rfl _ _ 29 rfl (w.heap.size + 1) 4 i0 (.bool false) 1 1 (by kernel_rfl) hI.out hZ0.out hZ1.out hZ2.out rfl (by decide) _ _ _ rfl (is.below (alloc_below _ (.cells #[.bool mk] 4))).own ⟨_, 0, none⟩ 1 1 [.bool mk] rfl rfl (cell_one_new _ _ _) (by simp [Value.oneCell']) (hbase.out _ is.bel).1 (hbase.out _ is.bel).2 (Nat.le_trans (lt_of_block is.cfg) (alloc_below _ _).size) ?_; intro v' w8 ho hg _; replace is := (is.below (alloc_below _ (.cells #[.bool mk] 4))).grow ho hg; clear ho hg; rw [hnx.out, hk2.out] at is; obtain ⟨ad', cp', hv'⟩ := own_form is.own; subst hv'))
      go_roundw
      case rel => exact ⟨n2, by have := hk2.out; omega, rfl, is⟩
      case measure => (have := hk2.out; simp [intOf]; omega)
    · obtain rfl : n1 = K.S := by omega
      have hl1 : ¬ (K.S : Int) < (K.S : Int) := by omega
      clear HN
      go_wp2
      go_ret
      exact ⟨_, rfl, is.own, is.bel⟩

set_option maxHeartbeats 4000000 in
theorem same_yes {w : World} {g1 o1 c1 g2 o2 c2 n : Nat} {M : Nat → Bool} (hn : n < 4611686018427387904) (hg1 : g1 < w.heap.size) (hg2 : g2 < w.heap.size) (h1 : ∀ i, i < n → w.cell? ⟨g1, o1 + i, none⟩ = some (.bool (M i))) (h2 : ∀ i, i < n → w.cell? ⟨g2, o2 + i, none⟩ = some (.bool (M i))) :
    Calls Tryz.prog 5 #[.slice (some ⟨g1, o1, none⟩) n c1, .slice (some ⟨g2, o2, none⟩) n c2] w fun r w' => r = .returned (.bool true) ∧ Below w.heap.size w w' := by
  have H := hid1 (fun (wr : World) (b : Below w.heap.size w wr) (i : Nat) (hi : i < n) => And.intro ((b.cell (p := ⟨g1, o1 + i, none⟩) hg1).trans (h1 i hi)) ((b.cell (p := ⟨g2, o2 + i, none⟩) hg2).trans (h2 i hi)))
  clear h1 h2 hg1 hg2
  have e0 : ((n : Int) != (n : Int)) = false := by simp
  go_enter Tryz.func5, Tryz.ntmps5
  go_upto_region 4 with fail
  go_loopw [5] (fun i wr => ∃ (k : Nat), k ≤ n ∧ i = .int .i64 k ∧ Below w.heap.size w wr) (fun i _ => n - (intOf i).toNat)
  case atStart => exact ⟨0, Nat.zero_le _, rfl, Below.refl _ _⟩
  case round =>
    obtain ⟨k, hk, rfl, bel⟩ := hrel
    by_cases hl : k < n
    · have hl1 : (k : Int) < (n : Int) := by omega
      have hl0 : (0 : Int) ≤ (k : Int) := by omega
      obtain ⟨x1, x2⟩ := H.out _ bel k hl
      have e3 : IntKind.i64.wrap ((k : Int) + 1) = ((k + 1 : Nat) : Int) := by rw [IntKind.wrap_i64]; omega
      generalize hk2 : k + 1 = k2 at *
      generalize M k = x at *
      have ex : (x != x) = false := by simp
      go_upto_region 6 with fail
      go_quiet (fail)
      go_wp2
      go_roundw
      case rel => exact ⟨k2, by omega, rfl, below_drewN bel _⟩
      case measure => simp [intOf]; omega
    · obtain rfl : k = n := by omega
      have hl1 : ¬ (k : Int) < (k : Int) := by omega
      go_wp2
      go_ret
      exact ⟨rfl, bel⟩
end Go.Proofs.YtcioomopgdhlmaaGreatDoor
