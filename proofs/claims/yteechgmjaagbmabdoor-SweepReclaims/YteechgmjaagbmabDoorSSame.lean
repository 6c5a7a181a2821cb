/- Both Lists where there is nothing to tell; the reference's Same of one list twice, and Has. -/
import Derived.Test.YteechgmjaagbmabDoorSList
namespace Go.Proofs.YteechgmjaagbmabDoor
open Go.RowKit

set_option maxHeartbeats 1000000 in
theorem rlist_wrong {s a c d g k : Int} (hr : rightB s a c d g k = false) (ad : Option Addr) (n cap : Nat) (w : World) :
    Calls Tryd.prog 23 #[.agg (cs s a c d g k), .slice ad n cap] w fun e w' => e = .returned (.slice none 0 0) ∧ Below w.heap.size w w' := by
  have c1 := rright_any s a c d g k
  rw [hr] at c1
  have bel := alloc_below w (.cells #[.int .i64 s, .int .i64 a, .int .i64 c, .int .i64 d, .int .i64 g, .int .i64 k] 23)
  clear hr
  go_enter Tryd.func23, Tryd.ntmps23
  go_wp2_with (go_at_call 29; refine (c1 _).mono ?_; rintro e w1 ⟨rfl, hb⟩; replace bel := seq_below bel hb)
  go_ret
  exact ⟨rfl, bel⟩

set_option maxHeartbeats 1000000 in
theorem rlist_no {K : Cf} (hK : K.Ok) (ad : Option Addr) (n cap : Nat) (hn : n ≠ K.N) (w : World) :
    Calls Tryd.prog 23 #[.agg K.cs, .slice ad n cap] w fun e w' => e = .returned (.slice none 0 0) ∧ Below w.heap.size w w' := by
  have c1 := rright_any K.S K.a K.C K.D K.g K.k
  rw [hK.r] at c1
  have c2 := words_r K.C K.D K.S K.B K.a K.g K.k hK.c8 hK.d16 hK.s64 hK.b hK.b8
  rw [show nW K.C K.D K.B K.S = K.N from rfl] at c2
  have hne : ((n : Int) != (K.N : Int)) = true := by simp; omega
  have bel := alloc_below w (.cells #[.int .i64 (K.S : Nat), .int .i64 K.a, .int .i64 (K.C : Nat), .int .i64 (K.D : Nat), .int .i64 K.g, .int .i64 K.k] 23)
  have hh := cfg_new w K.S K.a K.C K.D K.g K.k
  go_enter Tryd.func23, Tryd.ntmps23
  go_upto_region 1 with fail
  generalize w.alloc (.cells #[.int .i64 (K.S : Nat), .int .i64 K.a, .int .i64 (K.C : Nat), .int .i64 (K.D : Nat), .int .i64 K.g, .int .i64 K.k] 23) = w0 at *
  obtain ⟨l0, l1, l2, l3, l4, l5⟩ := hh.cells
  go_wp2_with (first
    | (go_at_call 29; refine (c1 _).mono ?_; rintro e w1 ⟨rfl, hb⟩; replace bel := seq_below bel hb; replace hh := hh.below hb; clear hb l0 l1 l2 l3 l4 l5; obtain ⟨l0, l1, l2, l3, l4, l5⟩ := hh.cells)
    | (go_at_call 14; refine (c2 _).mono ?_; rintro e w1 ⟨R, cap2, rfl, _, _, hb⟩; replace bel := seq_below bel hb; replace hh := hh.below hb; clear hb l0 l1 l2 l3 l4 l5; obtain ⟨l0, l1, l2, l3, l4, l5⟩ := hh.cells))
  go_ret
  exact ⟨rfl, bel⟩

/-! Same -/
set_option maxHeartbeats 1000000 in
theorem same_yes {v1 v2 : Value} {xs : List Nat} {w : World} (h1 : IsI w v1 xs) (h2 : IsI w v2 xs) (hl : xs.length ≤ 65536) :
    Calls Tryd.prog 24 #[v1, v2] w fun e w' => e = .returned (.bool true) ∧ Below w.heap.size w w' := by
  obtain ⟨a1, p1, rfl, _, f1⟩ := h1.form
  obtain ⟨a2, p2, rfl, _, f2⟩ := h2.form
  generalize hn : xs.length = n at *
  have H1 : ∀ k, k < n → ∃ g off, a1 = some ⟨g, off, none⟩ ∧ w.cell? ⟨g, off + k, none⟩ = some (.int .i64 (xs.getD k 0 : Nat)) := fun k hk => by
    obtain ⟨g, off, rfl⟩ := f1 (by rintro rfl; simp at hn; omega)
    exact ⟨g, off, rfl, h1.cell k (by omega)⟩
  have H2 : ∀ k, k < n → ∃ g off, a2 = some ⟨g, off, none⟩ ∧ w.cell? ⟨g, off + k, none⟩ = some (.int .i64 (xs.getD k 0 : Nat)) := fun k hk => by
    obtain ⟨g, off, rfl⟩ := f2 (by rintro rfl; simp at hn; omega)
    exact ⟨g, off, rfl, h2.cell k (by omega)⟩
  clear h1 h2 f1 f2 hn
  go_enter Tryd.func24, Tryd.ntmps24
  go_wp2
  go_loopw [5] (fun i wr => ∃ k : Nat, k ≤ n ∧ i = .int .i64 k ∧ Hid (∃ m, wr = w.drewN m)) (fun i _ => n - (intOf i).toNat)
  case atStart => exact ⟨0, Nat.zero_le _, rfl, 0, rfl⟩
  case round =>
    obtain ⟨k, hk, rfl, hW⟩ := hrel
    by_cases hkl : k < n
    · obtain ⟨g1, o1, rfl, q1⟩ := H1 k hkl
      obtain ⟨g2, o2, rfl, q2⟩ := H2 k hkl
      have hc1 : wr.cell? ⟨g1, o1 + k, none⟩ = some (.int .i64 (xs.getD k 0 : Nat)) := by obtain ⟨m, rfl⟩ := hW.out; exact q1
      have hc2 : wr.cell? ⟨g2, o2 + k, none⟩ = some (.int .i64 (xs.getD k 0 : Nat)) := by obtain ⟨m, rfl⟩ := hW.out; exact q2
      clear H1 H2 q1 q2
      generalize xs.getD k 0 = v at *
      go_wp2_with fail
      go_quiet (fail)
      go_wp2
      go_roundw
      case rel => exact ⟨k + 1, by omega, by go_num, Mm.drew_on hW _⟩
      case measure => simp [intOf]; omega
    · have hkn : k = n := by omega
      subst hkn
      clear H1 H2
      go_wp2
      go_ret
      obtain ⟨m, rfl⟩ := hW.out
      exact ⟨rfl, below_drewN (Below.refl _ _) _⟩

end Go.Proofs.YteechgmjaagbmabDoor
