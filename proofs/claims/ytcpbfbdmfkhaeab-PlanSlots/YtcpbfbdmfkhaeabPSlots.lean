/- The law of the slots' places. -/
import Derived.Test.YtcpbfbdmfkhaeabPSlaw0
import Derived.Test.YtcpbfbdmfkhaeabPSlaw1
import Derived.Test.YtcpbfbdmfkhaeabPSlaw2
import Derived.Test.YtcpbfbdmfkhaeabPSlaw3
namespace Go.Proofs.Ytcpbfbdmfkhaeab
open Go.RowKit

theorem fs_nat (C D : Nat) : fsI C D = ((4 + C + C * D + 2 * C : Nat) : Int) := by unfold fsI; push_cast; rfl
theorem ss_nat {a : Int} {B : Nat} (hB : bsI a = (B : Int)) : ssI a = ((2 + B : Nat) : Int) := by unfold ssI; rw [hB]; omega

theorem slot_hyps {C D S B : Nat} {a g k : Int} (hr : rightB S a C D g k = true) (hB : bsI a = (B : Int)) (hB8 : B ≤ 8) (hD1 : 1 ≤ D) (x y : Int) : ∃ p1 p2 p3 : Int,
    (∀ w, Calls Try.prog 18 #[.agg (cs S a C D g k), .int .i64 x] w fun e w' => e = .returned (.int .i64 p1) ∧ Below w.heap.size w w') ∧
    (∀ w, Calls Try.prog 14 #[.agg (cs S a C D g k), .agg #[.string (nb 8), .int .i64 x, .int .i64 0]] w fun e w' => e = .returned (.int .i64 p1) ∧ Below w.heap.size w w') ∧
    (∀ w, Calls Try.prog 19 #[.agg (cs S a C D g k), .int .i64 x] w fun e w' => e = .returned (.int .i64 p2) ∧ Below w.heap.size w w') ∧
    (∀ w, Calls Try.prog 14 #[.agg (cs S a C D g k), .agg #[.string (nb 9), .int .i64 x, .int .i64 0]] w fun e w' => e = .returned (.int .i64 p2) ∧ Below w.heap.size w w') ∧
    (∀ w, Calls Try.prog 20 #[.agg (cs S a C D g k), .int .i64 x, .int .i64 y] w fun e w' => e = .returned (.int .i64 p3) ∧ Below w.heap.size w w') ∧
    (∀ w, Calls Try.prog 14 #[.agg (cs S a C D g k), .agg #[.string (nb 10), .int .i64 x, .int .i64 y]] w fun e w' => e = .returned (.int .i64 p3) ∧ Below w.heap.size w w') := by
  have wb := fun p hp => wat_b (C := C) (D := D) (B := B) (S := S) (p := p) hD1 hp
  by_cases hx : 0 ≤ x ∧ x < S
  · obtain ⟨X, rfl⟩ : ∃ X : Nat, x = (X : Int) := ⟨x.toNat, by omega⟩
    have hX : X < S := by omega
    have hbe : be X S = true := be_iff.2 hx
    have n1 := mul_lt S (2 + B) X (1 + B) hX (by omega)
    have n2 : nW C D B S = 4 + C + C * D + 2 * C + S * (2 + B) := rfl
    have t1 := fun w => at_yes (g := g) (k := k) hr hB hB8 8 X 0 (4 + C + C * D + 2 * C + X * (2 + B)) (by omega) (by omega) (wat_header C D B X) w
    have t2 := fun w => at_yes (g := g) (k := k) hr hB hB8 9 X 0 (4 + C + C * D + 2 * C + X * (2 + B) + 1) (by omega) (by omega) (wat_link C D B X) w
    have q1 := header_yes (X : Int) hr hbe
    have q2 := link_yes (X : Int) hr hbe
    rw [fs_nat, ss_nat hB] at q1 q2
    rw [show ((4 + C + C * D + 2 * C : Nat) : Int) + (X : Int) * ((2 + B : Nat) : Int) = ((4 + C + C * D + 2 * C + X * (2 + B) : Nat) : Int) by push_cast; rfl] at q1 q2
    by_cases hy : 0 ≤ y ∧ y < B
    · obtain ⟨Y, rfl⟩ : ∃ Y : Nat, y = (Y : Int) := ⟨y.toNat, by omega⟩
      have hY : Y < B := by omega
      have t3 := fun w => at_yes (g := g) (k := k) hr hB hB8 10 X Y (4 + C + C * D + 2 * C + X * (2 + B) + (Y + 2)) (by omega) (by omega) (wat_body C D B X Y hY) w
      have q3 := body_yes (X : Int) (Y : Int) hr hbe (be_iff.2 (by rw [hB]; exact hy))
      rw [fs_nat, ss_nat hB, show ((4 + C + C * D + 2 * C : Nat) : Int) + (X : Int) * ((2 + B : Nat) : Int) + 2 + (Y : Int) = ((4 + C + C * D + 2 * C + X * (2 + B) + (Y + 2) : Nat) : Int) by push_cast; omega] at q3
      exact ⟨_, _, _, q1, t1, q2, t2, q3, t3⟩
    · have t3 := fun w => at_no (g := g) (k := k) hr hB hB8 10 X y (by omega) (fun p hp h1 h2 h3 => by have := wb p hp; omega) w
      have q3 := body_no2 (X : Int) y (by rw [hr, hbe]; rfl) (be_false (n := bsI a) (by rw [hB]; exact hy))
      exact ⟨_, _, _, q1, t1, q2, t2, q3, t3⟩
  · have f : ∀ n : Int, n = S → (rightB S a C D g k && be x n) = false := fun n hn => by rw [hn, be_false hx, Bool.and_false]
    have t1 := fun w => at_no (g := g) (k := k) hr hB hB8 8 x 0 (by omega) (fun p hp h1 h2 h3 => by have := wb p hp; omega) w
    have t2 := fun w => at_no (g := g) (k := k) hr hB hB8 9 x 0 (by omega) (fun p hp h1 h2 h3 => by have := wb p hp; omega) w
    have t3 := fun w => at_no (g := g) (k := k) hr hB hB8 10 x y (by omega) (fun p hp h1 h2 h3 => by have := wb p hp; omega) w
    exact ⟨_, _, _, header_no x (f _ rfl), t1, link_no x (f _ rfl), t2, body_no x y (f _ rfl), t3⟩

theorem slot_at {C D S B : Nat} {a g k : Int} (hr : rightB S a C D g k = true) (hB : bsI a = (B : Int)) {Z : Nat} (hZ : Z < nW C D B S) (h8 : 8 ≤ (wat C D B Z).1) (w : World) :
    Calls Try.prog 21 #[.agg (cs S a C D g k), .int .i64 (Z : Nat)] w fun e w' => e = .returned (.int .i64 ((wat C D B Z).2.1 : Nat)) ∧ Below w.heap.size w w' := by
  have hk := kind_range (C := C) (D := D) (B := B) (p := Z)
  have hF : 4 + C + C * D + 2 * C ≤ Z := by omega
  have h := slot_yes (g := g) (k := k) (Z : Int) hr ⟨by rw [fs_nat]; omega, by rw [szI_nat C D S B a hB]; omega⟩ w
  rw [fs_nat, ss_nat hB, show (Z : Int) - ((4 + C + C * D + 2 * C : Nat) : Int) = ((Z - (4 + C + C * D + 2 * C) : Nat) : Int) by omega, ← Int.natCast_ediv] at h
  rw [wat_4 C D B Z hF]
  exact h

theorem slot_none {C D S B : Nat} {a g k : Int} (hr : rightB S a C D g k = true) (hB : bsI a = (B : Int)) {z : Int} (hz : z < 4 + C + C * D + 2 * C ∨ (nW C D B S : Nat) ≤ z) (w : World) :
    Calls Try.prog 21 #[.agg (cs S a C D g k), .int .i64 z] w fun e w' => e = .returned (.int .i64 (-1)) ∧ Below w.heap.size w w' :=
  slot_no2 z hr (by rw [szI_nat C D S B a hB]; unfold fsI; exact hz) w

theorem words_at {C D S B : Nat} {a g k : Int} (hC : C ≤ 8) (hD : D ≤ 16) (hS : S ≤ 64) (hB : bsI a = (B : Int)) (hB8 : B ≤ 8) {Z K : Nat} (hZ : Z < nW C D B S) (hK : (wat C D B Z).1 = K) (w : World) :
    Calls Try.prog 9 #[.agg (cs S a C D g k)] w fun e w' => ∃ R cap, e = .returned (.slice (some ⟨R, 0, none⟩) (nW C D B S) cap) ∧ (w'.cell? ⟨R, Z * 3, none⟩ = some (.string (nb K)) ∧ w'.cell? ⟨R, Z * 3 + 1, none⟩ = some (.int .i64 ((wat C D B Z).2.1 : Nat))) ∧ Below w.heap.size w w' :=
  (words_r C D S B a g k hC hD hS hB hB8 w).mono fun e w' ⟨R, cap, he, hL, _, hb⟩ => by
    have := hL.at Z hZ
    rw [hK] at this
    exact ⟨R, cap, he, ⟨this.1, this.2.1⟩, hb⟩

theorem slots_law (s a c d g k x y z : Int) (w : World) : Calls Try.prog 5 #[.agg (cs s a c d g k), .int .i64 x, .int .i64 y, .int .i64 z] w fun e w' => e = .returned (.bool true) ∧ Below w.heap.size w w' := by
  cases hr : rightB s a c d g k
  · have f : ∀ i n, (rightB s a c d g k && be i n) = false := fun i n => by rw [hr]; rfl
    have r1 := rright_any s a c d g k
    rw [hr] at r1
    exact slots_as_no s a c d g k x y z (-1) (-1) (-1) (header_no x (f _ _)) (at_wrong hr _ _ _ _ rfl) (link_no x (f _ _)) (at_wrong hr _ _ _ _ rfl) (body_no x y (f _ _)) (at_wrong hr _ _ _ _ rfl) (slot_no z hr) r1 w
  · obtain ⟨C, D, S, B, rfl, rfl, rfl, hB, hB8, _, hD1, hC1, _, hC8, hD16, hS64⟩ := nat_cfg hr
    have r1 := rright_any S a C D g k
    rw [hr] at r1
    obtain ⟨p1, p2, p3, c1, a1, c2, a2, c3, a3⟩ := slot_hyps hr hB hB8 hD1 x y
    have hF : 4 + C + C * D + 2 * C ≤ nW C D B S := by unfold nW; omega
    by_cases hz : 0 ≤ z ∧ z < (nW C D B S : Nat)
    · obtain ⟨Z, rfl⟩ : ∃ Z : Nat, z = (Z : Int) := ⟨z.toNat, by omega⟩
      have hZ : Z < nW C D B S := by omega
      have hk := kind_range (C := C) (D := D) (B := B) (p := Z)
      have wa := fun K hK => words_at (g := g) (k := k) hC8 hD16 hS64 hB hB8 (K := K) hZ hK
      have hF2 : ((4 + C + C * D + 2 * C : Nat) : Int) = 4 + (C : Int) + C * D + 2 * C := by push_cast; rfl
      have no := fun (h : (wat C D B Z).1 ≤ 7) => slot_none (g := g) (k := k) hr hB (z := (Z : Int)) (.inl (by have h3 : Z < 4 + C + C * D + 2 * C := (by omega); omega))
      have yes := fun h => slot_at (g := g) (k := k) hr hB hZ h
      have hle := wat_le C D B Z
      have hall : (wat C D B Z).1 = 0 ∨ (wat C D B Z).1 = 1 ∨ (wat C D B Z).1 = 2 ∨ (wat C D B Z).1 = 3 ∨ (wat C D B Z).1 = 4 ∨ (wat C D B Z).1 = 5 ∨ (wat C D B Z).1 = 6 ∨ (wat C D B Z).1 = 7 ∨ (wat C D B Z).1 = 8 ∨ (wat C D B Z).1 = 9 ∨ (wat C D B Z).1 = 10 := by omega
      rcases hall with h | h | h | h | h | h | h | h | h | h | h
      · exact slots_as_0 S a C D g k x y p1 p2 p3 _ Z _ hZ c1 a1 c2 a2 c3 a3 (no (by omega)) r1 (wa 0 h) w
      · exact slots_as_1 S a C D g k x y p1 p2 p3 _ Z _ hZ c1 a1 c2 a2 c3 a3 (no (by omega)) r1 (wa 1 h) w
      · exact slots_as_2 S a C D g k x y p1 p2 p3 _ Z _ hZ c1 a1 c2 a2 c3 a3 (no (by omega)) r1 (wa 2 h) w
      · exact slots_as_3 S a C D g k x y p1 p2 p3 _ Z _ hZ c1 a1 c2 a2 c3 a3 (no (by omega)) r1 (wa 3 h) w
      · exact slots_as_4 S a C D g k x y p1 p2 p3 _ Z _ hZ c1 a1 c2 a2 c3 a3 (no (by omega)) r1 (wa 4 h) w
      · exact slots_as_5 S a C D g k x y p1 p2 p3 _ Z _ hZ c1 a1 c2 a2 c3 a3 (no (by omega)) r1 (wa 5 h) w
      · exact slots_as_6 S a C D g k x y p1 p2 p3 _ Z _ hZ c1 a1 c2 a2 c3 a3 (no (by omega)) r1 (wa 6 h) w
      · exact slots_as_7 S a C D g k x y p1 p2 p3 _ Z _ hZ c1 a1 c2 a2 c3 a3 (no (by omega)) r1 (wa 7 h) w
      · exact slots_as_8 S a C D g k x y p1 p2 p3 _ Z _ hZ c1 a1 c2 a2 c3 a3 (yes (by omega)) r1 (wa 8 h) w
      · exact slots_as_9 S a C D g k x y p1 p2 p3 _ Z _ hZ c1 a1 c2 a2 c3 a3 (yes (by omega)) r1 (wa 9 h) w
      · exact slots_as_10 S a C D g k x y p1 p2 p3 _ Z _ hZ c1 a1 c2 a2 c3 a3 (yes (by omega)) r1 (wa 10 h) w
    · have hF2 : ((4 + C + C * D + 2 * C : Nat) : Int) = 4 + (C : Int) + C * D + 2 * C := by push_cast; rfl
      exact slots_as_out S a C D g k x y z p1 p2 p3 _ hz c1 a1 c2 a2 c3 a3 (slot_none (g := g) (k := k) hr hB (by omega)) r1 (fun w => (words_r C D S B a g k hC8 hD16 hS64 hB hB8 w).mono fun e w' ⟨R, cap, he, _, _, hb⟩ => ⟨R, cap, he, trivial, hb⟩) w
end Go.Proofs.Ytcpbfbdmfkhaeab
