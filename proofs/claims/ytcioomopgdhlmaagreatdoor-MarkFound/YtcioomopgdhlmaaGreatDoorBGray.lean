/- The reference's at and Grays of layer 13. -/
import Derived.Test.YtcioomopgdhlmaaGreatDoorDB
namespace Go.Proofs.YtcioomopgdhlmaaGreatDoor
open Go.RowKit
open Mm (IsMem MS touched Only IsWords)
open Hh (WT wordOf okW Hr)

set_option maxHeartbeats 2000000 in
theorem at13_yes {K : Cf} (hK : K.Ok) (kd who i : Nat) {P : Nat} (hk : kd ≤ 10) (hP : P < K.N) (hw : wat K.C K.D K.B P = (kd, who, i)) {b off cap : Nat} {X : List Nat} (hX : X.length = K.N) {w : World} (hr : RdW w b off X) :
    Calls Tryz.prog 29 #[.agg (cs K.S K.a K.C K.D K.g K.k), .slice (some ⟨b, off, none⟩) K.N cap, .string (nb kd), .int .i64 (who : Nat), .int .i64 (i : Nat)] w fun e w' => e = .returned (.int .u64 (X.getD P 0 : Nat)) ∧ Below w.heap.size w w' := by
  have c1 := fun w => at_yes hK.r hK.b hK.b8 kd who i P hk hP hw w
  have hN := hK.N_b
  obtain ⟨W, hW⟩ : ∃ W, X.getD P 0 = W := ⟨_, rfl⟩
  rw [hW]
  have bel := alloc_below w (.cells #[.int .i64 (K.S : Nat), .int .i64 K.a, .int .i64 (K.C : Nat), .int .i64 (K.D : Nat), .int .i64 K.g, .int .i64 K.k] 23)
  have hh := cfg_new w K.S K.a K.C K.D K.g K.k
  replace hr := hr.below bel
  clear hw
  generalize nb kd = nm at *
  generalize K.N = N at *
  go_enter Tryz.func29, Tryz.ntmps29
  go_upto_region 1 with fail
  generalize w.alloc (.cells #[.int .i64 (K.S : Nat), .int .i64 K.a, .int .i64 (K.C : Nat), .int .i64 (K.D : Nat), .int .i64 K.g, .int .i64 K.k] 23) = w0 at *
  obtain ⟨l0, l1, l2, l3, l4, l5⟩ := hh.cells
  go_wp2_with (go_at_call 38; with_reducible refine (c1 _).mono ?_; rintro e w1 ⟨rfl, hb⟩; replace bel := seq_below bel hb; replace hr := hr.below hb; clear l0 l1 l2 l3 l4 l5; have q := hr.atW (i := P) (by omega) hW)
  go_ret
  exact ⟨rfl, bel⟩

set_option maxHeartbeats 4000000 in
theorem grays13_any {K : Cf} (hK : K.Ok) {b off cap : Nat} {X : List Nat} (hX : X.length = K.N) (hlt : ∀ i, X.getD i 0 < 18446744073709551616) {w : World} (hr : RdW w b off X) (hw : WT w) :
    Calls Tryz.prog 40 #[.agg K.cs, .slice (some ⟨b, off, none⟩) K.N cap] w fun e w' => e = .returned (.int .i64 ((grN K X K.S : Nat) : Int)) ∧ Below w.heap.size w w' := by
  have hN := hK.N_b
  have hS := hK.s64
  have bel := alloc_below w (.cells #[.int .i64 (K.S : Nat), .int .i64 K.a, .int .i64 (K.C : Nat), .int .i64 (K.D : Nat), .int .i64 K.g, .int .i64 K.k] 23)
  have is : Gr w _ K b off X := ⟨hr.below bel, cfg_new w K.S K.a K.C K.D K.g K.k, bel, hw.below bel⟩
  clear bel hr hw
  go_enter Tryz.func40, Tryz.ntmps40
  go_upto_region 1 with fail
  generalize w.alloc (.cells #[.int .i64 (K.S : Nat), .int .i64 K.a, .int .i64 (K.C : Nat), .int .i64 (K.D : Nat), .int .i64 K.g, .int .i64 K.k] 23) = w0 at *
  obtain ⟨l0, l1, l2, l3, l4, l5⟩ := is.cfg.cells
  go_wp2
  go_loopw [5, 6] (fun v i wr => ∃ n : Nat, n ≤ K.S ∧ i = .int .i64 n ∧ v = .int .i64 ((grN K X n : Nat) : Int) ∧ Gr w wr K b off X) (fun _ i _ => K.S - (intOf i).toNat)
  case atStart => exact ⟨0, Nat.zero_le _, rfl, rfl, is⟩
  case round =>
    clear is l0 l1 l2 l3 l4 l5
    obtain ⟨n, hn, rfl, rfl, is⟩ := hrel
    obtain ⟨l0, l1, l2, l3, l4, l5⟩ := is.cfg.cells
    by_cases hnS : n < K.S
    · have c3 : ∀ wr, RdW wr b off X → Calls Tryz.prog 29 #[.agg (cs K.S K.a K.C K.D K.g K.k), .slice (some ⟨b, off, none⟩) K.N cap, .string ⟨#[104, 101, 97, 100, 101, 114]⟩, .int .i64 (n : Nat), .int .i64 0] wr fun e w' => e = .returned (.int .u64 (X.getD (K.hd n) 0 : Nat)) ∧ Below wr.heap.size wr w' := fun wr h => at13_yes hK 8 n 0 (by omega) (K.hd_lt hnS) (wat_header K.C K.D K.B n) hX h
      have c4 := run_any (hlt (K.hd n))
      have hh := K.hd_lt hnS
      have hhX : K.hd n < X.length := by omega
      have hg := grN_le K X n
      have hst : grN K X (n + 1) = grN K X n + (if grayW (X.getD (K.hd n) 0) then 1 else 0) := rfl
      replace hst : Hid (grN K X (n + 1) = grN K X n + (if grayW (X.getD (K.hd n) 0) then 1 else 0)) := hst
      obtain ⟨W, hXW⟩ : ∃ W, X.getD (K.hd n) 0 = W := ⟨_, rfl⟩
      rw [hXW] at c3 c4 hst
      have q := is.rd.atW hhX hXW
      have hW := hlt (K.hd n)
      rw [hXW] at hW
      generalize grN K X n = G at *
      have hG : (G : Int) ≤ 64 := by omega
      cases hok : okW W
      · rw [hok] at c4
        go_wp2_with (first
          | (go_at_call 29; with_reducible refine (c3 _ is.rd).mono ?_; rintro e w1 ⟨rfl, hb⟩; replace is := is.below hb; clear l0 l1 l2 l3 l4 l5 q; obtain ⟨l0, l1, l2, l3, l4, l5⟩ := is.cfg.cells; have q := is.rd.atW hhX hXW)
          | (go_at_call 28; with_reducible refine (c4 _).mono ?_; rintro e w2 ⟨⟨k, m, g, a, nn, s, rfl, hgr⟩, hb⟩; replace is := is.below hb; clear l0 l1 l2 l3 l4 l5 q))
        go_roundw
        case rel => exact ⟨n + 1, by omega, by go_num, by rw [hst.out, ← hgr]; rfl, is.below (alloc_below _ _)⟩
        case measure => simp [intOf]; omega
      · rw [hok] at c4
        go_upto_region 6 with (first
          | (go_at_call 29; with_reducible refine (c3 _ is.rd).mono ?_; rintro e w1 ⟨rfl, hb⟩; replace is := is.below hb; clear l0 l1 l2 l3 l4 l5 q; obtain ⟨l0, l1, l2, l3, l4, l5⟩ := is.cfg.cells; have q := is.rd.atW hhX hXW)
          | (go_at_call 28; with_reducible refine (c4 _).mono ?_; rintro e w2 ⟨⟨k, m, g, a, nn, s, rfl, hgr⟩, hb⟩; replace is := is.below hb; clear l0 l1 l2 l3 l4 l5 q))
        rw [Bool.true_and] at hgr
        replace hgr : Hid (g = grayW W) := hgr
        replace is := is.below (alloc_below _ (.cells #[.int .i64 k, .int .i64 m, .bool g, .int .i64 a, .int .i64 nn, .int .i64 s] 57))
        cases g
        · go_wp2
          go_roundw
          case rel => exact ⟨n + 1, by omega, by go_num, by rw [hst.out, ← hgr.out]; rfl, is⟩
          case measure => simp [intOf]; omega
        · go_wp2
          go_roundw
          case rel => exact ⟨n + 1, by omega, by go_num, by rw [hst.out, ← hgr.out]; go_num, is⟩
          case measure => simp [intOf]; omega
    · have hnn : n = K.S := by omega
      subst hnn
      go_wp2
      go_ret
      exact ⟨rfl, is.bel⟩
end Go.Proofs.YtcioomopgdhlmaaGreatDoor
