/- The contract of stack's List; both Lists where there is nothing to tell; Same and Has. -/
import Derived.Test.YtcfallaekedmkaaSList
namespace Go.Proofs.Ytcfallaekedmkaa
open Go.RowKit

theorem Ls.held {w wr : World} {K : Cf} {X : List Nat} {v : Value} {xs : List Nat} {x : Nat} {b off : Nat} (h : Ls w wr K X v xs x) (q : ∀ w', Below w.heap.size w w' → w'.cell? ⟨b, off, none⟩ = some (.int .u64 x)) :
    wr.cell? ⟨w.heap.size, 0, none⟩ = some (.int .i64 (K.S : Nat)) ∧ wr.cell? ⟨w.heap.size, 1, none⟩ = some (.int .i64 K.a) ∧ wr.cell? ⟨w.heap.size, 2, none⟩ = some (.int .i64 (K.C : Nat)) ∧ wr.cell? ⟨w.heap.size, 3, none⟩ = some (.int .i64 (K.D : Nat)) ∧ wr.cell? ⟨w.heap.size, 4, none⟩ = some (.int .i64 K.g) ∧ wr.cell? ⟨w.heap.size, 5, none⟩ = some (.int .i64 K.k) ∧ wr.cell? ⟨b, off, none⟩ = some (.int .u64 x) := by
  obtain ⟨l0, l1, l2, l3, l4, l5⟩ := h.cfg.cells
  exact ⟨l0, l1, l2, l3, l4, l5, q _ h.bel⟩

theorem nmd_no {S y : Nat} (h : nmd S y = -1) : ¬ (1 ≤ y ∧ y ≤ S) := by
  unfold nmd at h
  split at h <;> omega

set_option maxHeartbeats 4000000 in
theorem slist_yes {K : Cf} (hK : K.Ok) {w : World} {b off cap : Nat} {X : List Nat} (hR : RdW w b off X) (hX : X.length = K.N) (hlt : ∀ i, X.getD i 0 < 18446744073709551616) :
    Calls Try.prog 19 #[.agg K.cs, .slice (some ⟨b, off, none⟩) K.N cap] w fun e w' => ∃ v, e = .returned v ∧ IsI w' v (lst K X) ∧ (∀ g, v.ownBlock = some g → w.heap.size ≤ g) ∧ Below w.heap.size w w' := by
  have c1 := right_any K.S K.a K.C K.D K.g K.k
  rw [hK.r] at c1
  have c2 := size_yes hK.r
  rw [szI_nat K.C K.D K.S K.B K.a hK.b, show nW K.C K.D K.B K.S = K.N from rfl] at c2
  have c3 := link_any hK
  have c4 := first_any K.S hK.s64 K.a K.C K.D K.g K.k (X.getD 3 0) (hlt 3)
  have c5 := fun x hx => named_any K.S hK.s64 K.a K.C K.D K.g K.k x hx
  have hN := hK.N_b
  have hS := hK.s64
  have hlk : ∀ s, s < K.S → K.lk s < K.N := fun s hs => hK.lk_lt hs
  have bel := alloc_below w (.cells #[.int .i64 (K.S : Nat), .int .i64 K.a, .int .i64 (K.C : Nat), .int .i64 (K.D : Nat), .int .i64 K.g, .int .i64 K.k] 23)
  have hh := cfg_new w K.S K.a K.C K.D K.g K.k
  go_enter Try.func19, Try.ntmps19
  go_upto_region 1 with fail
  generalize w.alloc (.cells #[.int .i64 (K.S : Nat), .int .i64 K.a, .int .i64 (K.C : Nat), .int .i64 (K.D : Nat), .int .i64 K.g, .int .i64 K.k] 23) = w0 at *
  obtain ⟨l0, l1, l2, l3, l4, l5⟩ := hh.cells
  go_upto_region 4 with (first
    | (go_at_call 26; refine (c1 _).mono ?_; rintro e w1 ⟨rfl, hb⟩; replace bel := seq_below bel hb; replace hh := hh.below hb; clear hb l0 l1 l2 l3 l4 l5; obtain ⟨l0, l1, l2, l3, l4, l5⟩ := hh.cells)
    | (go_at_call 27; refine (c2 _).mono ?_; rintro e w1 ⟨rfl, hb⟩; replace bel := seq_below bel hb; replace hh := hh.below hb; clear hb l0 l1 l2 l3 l4 l5; obtain ⟨l0, l1, l2, l3, l4, l5⟩ := hh.cells))
  have h3 := hlt 3
  have hR' : ∀ w', Below w.heap.size w w' → RdW w' b off X := fun w' h => hR.below h
  have q3 : ∀ w', Below w.heap.size w w' → w'.cell? ⟨b, off + 3, none⟩ = some (.int .u64 (X.getD 3 0 : Nat)) := fun w' h => (hR' w' h).2 3 (by omega)
  have ls : Ls w w1 K X (.slice none 0 0) [] (X.getD 3 0 % 65536) := ⟨IsI.nil _, (fun g hg => by cases hg), hh, bel, rfl, by omega, Nat.zero_le _⟩
  rw [show fst K.S (X.getD 3 0) = nmd K.S (X.getD 3 0 % 65536) from rfl] at c4
  clear hR c1 c2 bel
  replace ls := ls.below (Below.refl w1.heap.size w1).drew
  obtain ⟨t, ht⟩ : ∃ t, X.getD 3 0 % 65536 = t := ⟨_, rfl⟩
  rw [ht] at ls c4
  clear ht
  have hkp : ∀ wr, Ls w wr K X (.slice none 0 0) [] t → wr.cell? ⟨w.heap.size, 0, none⟩ = some (.int .i64 (K.S : Nat)) ∧ wr.cell? ⟨w.heap.size, 1, none⟩ = some (.int .i64 K.a) ∧ wr.cell? ⟨w.heap.size, 2, none⟩ = some (.int .i64 (K.C : Nat)) ∧ wr.cell? ⟨w.heap.size, 3, none⟩ = some (.int .i64 (K.D : Nat)) ∧ wr.cell? ⟨w.heap.size, 4, none⟩ = some (.int .i64 K.g) ∧ wr.cell? ⟨w.heap.size, 5, none⟩ = some (.int .i64 K.k) ∧ wr.cell? ⟨b, off + 3, none⟩ = some (.int .u64 (X.getD 3 0 : Nat)) := fun wr h => by
    obtain ⟨l0, l1, l2, l3, l4, l5⟩ := h.cfg.cells
    exact ⟨l0, l1, l2, l3, l4, l5, q3 _ h.bel⟩
  generalize X.getD 3 0 = t3 at *
  clear l0 l1 l2 l3 l4 l5 hh q3
  go_region_held (fun wr => wr.cell? ⟨w.heap.size, 0, none⟩ = some (.int .i64 (K.S : Nat)) ∧ wr.cell? ⟨w.heap.size, 1, none⟩ = some (.int .i64 K.a) ∧ wr.cell? ⟨w.heap.size, 2, none⟩ = some (.int .i64 (K.C : Nat)) ∧ wr.cell? ⟨w.heap.size, 3, none⟩ = some (.int .i64 (K.D : Nat)) ∧ wr.cell? ⟨w.heap.size, 4, none⟩ = some (.int .i64 K.g) ∧ wr.cell? ⟨w.heap.size, 5, none⟩ = some (.int .i64 K.k) ∧ wr.cell? ⟨b, off + 3, none⟩ = some (.int .u64 (t3 : Nat))) (with_reducible exact hkp _ ls) (first
    | (go_at_call 35; with_reducible refine (c4 _).mono ?_; rintro e w2 ⟨rfl, hb⟩; replace ls := ls.below hb))
  clear hkp c4
  go_wp2
  go_loopw [5, 6] (fun v x wr => ∃ (xs : List Nat) (y : Nat), x = .int .i64 (nmd K.S y) ∧ Ls w wr K X v xs y) (fun v _ _ => K.S - slLen v)
  case atStart => exact ⟨[], t, rfl, ls⟩
  case round =>
    clear ls
    obtain ⟨xs, y, rfl, ls⟩ := hrel
    obtain ⟨l0, l1, l2, l3, l4, l5⟩ := ls.cfg.cells
    obtain ⟨ad, cp, hv, hcp, _⟩ := ls.own.form
    have hyl := ls.lt
    have hle := ls.le
    subst hv
    rcases nmd_cases K.S y with hy | ⟨s, hs, hy, rfl⟩
    · rw [hy]
      go_wp2
      go_ret
      exact ⟨_, rfl, ls.done (.inl (nmd_no hy))⟩
    · rw [hy]
      clear hy
      by_cases hl : xs.length < K.S
      · have d3 := c3 s hs
        have hL := hlk s hs
        go_wp2_with (first
          | (at_builtin; refine wpList_append_ints rfl _ _ rfl _ xs [s] rfl (ls.own.below (alloc_below _ _)) ⟨_, 0, none⟩ 1 1 rfl rfl (by simp) (one_new _ _ _) ?c3 ?_))
        case c3 => simp; omega
        intro v' w2 hI hg hp
        have ls' := ls.step hs hl _ hI hg hp hlt
        clear hI hg hp l0 l1 l2 l3 l4 l5 ls hyl
        have d5 := c5 _ (hlt (K.lk s))
        have q0 : ∀ w', Below w.heap.size w w' → w'.cell? ⟨b, off + K.lk s, none⟩ = some (.int .u64 (X.getD (K.lk s) 0 : Nat)) := fun w' h => (hR' w' h).2 (K.lk s) (by omega)
        generalize X.getD (K.lk s) 0 = nv at *
        go_upto_region 7 with fail
        replace ls' := ls'.below (Below.refl w2.heap.size w2).drew
        go_region_held (fun wr => wr.cell? ⟨w.heap.size, 0, none⟩ = some (.int .i64 (K.S : Nat)) ∧ wr.cell? ⟨w.heap.size, 1, none⟩ = some (.int .i64 K.a) ∧ wr.cell? ⟨w.heap.size, 2, none⟩ = some (.int .i64 (K.C : Nat)) ∧ wr.cell? ⟨w.heap.size, 3, none⟩ = some (.int .i64 (K.D : Nat)) ∧ wr.cell? ⟨w.heap.size, 4, none⟩ = some (.int .i64 K.g) ∧ wr.cell? ⟨w.heap.size, 5, none⟩ = some (.int .i64 K.k) ∧ wr.cell? ⟨b, off + K.lk s, none⟩ = some (.int .u64 (nv : Nat))) (with_reducible exact ls'.held q0) (first
          | (go_at_call 29; with_reducible refine (d3 _).mono ?_; rintro e w3 ⟨rfl, hb⟩; replace ls' := ls'.below hb)
          | (go_at_call 36; with_reducible refine (d5 _).mono ?_; rintro e w3 ⟨rfl, hb⟩; replace ls' := ls'.below hb))
        go_wp2
        go_roundw
        case rel => exact ⟨_, _, rfl, ls'⟩
        case measure => rw [ls'.own.slLen]; simp [slLen]; omega
      · go_wp2
        go_ret
        exact ⟨_, rfl, ls.done (.inr hl)⟩
end Go.Proofs.Ytcfallaekedmkaa
