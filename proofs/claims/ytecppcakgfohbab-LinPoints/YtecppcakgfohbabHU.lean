/- slices.swapRangeCmpFunc, slices.rotateCmpFunc. -/
import Derived.Test.YtecppcakgfohbabHS
namespace Go.Proofs.Ytecppcakgfohbab
open Go.RowKit Go.Sort

set_option maxRecDepth 100000 in
set_option maxHeartbeats 4000000 in
theorem exg_any {w0 w : World} {B off n : Nat} {d : Array Nat} (S0 : SR w0 B off n d w) {a b x y k : Nat} (hx : a ≤ x) (hxy : x + k ≤ y) (hy : y + k ≤ b) (hb : b ≤ n) (hn : n < 1000000000) (cap : Nat) (fv : Value) :
    Calls Try.prog 80 #[.slice (some ⟨B, off, none⟩) n cap, .int .i64 (x : Int), .int .i64 (y : Int), .int .i64 (k : Int), fv] w fun e w' => e = .returned (.tuple #[]) ∧ ∃ dn, Exg a b x y k d dn ∧ SR w0 B off n dn w' := by
  have hsd := S0.len
  have S0 := hid1 S0
  replace hsd := hid1 hsd
  go_enter Try.func80, Try.ntmps80
  go_wp2
  go_loopg [10] k (fun g1 vi wr => ∃ (i : Nat) (dk : Array Nat), vi = .int .i64 i ∧ i ≤ k ∧ k - i ≤ g1 ∧ Hid (SR w0 B off n dk wr) ∧ Hid (Exg a b x y i d dk))
  case atStart => exact ⟨0, d, by go_num, by omega, by omega, S0, hid1 (Exg.start a b x y d)⟩
  case round =>
    clear S0
    obtain ⟨i, dk, rfl, hik, hg1, S2, HO⟩ := hrel
    by_cases hlt : i < k
    · have hltz : (i : Int) < (k : Int) := by omega
      obtain ⟨iN, hiN⟩ : ∃ q, q = x + i := ⟨_, rfl⟩
      obtain ⟨jN, hjN⟩ : ∃ q, q = y + i := ⟨_, rfl⟩
      have ea : ((x : Int) + (i : Int)).toNat = iN := by omega
      have pa : (0 : Int) ≤ (x : Int) + (i : Int) := by omega
      have ba : (x : Int) + (i : Int) < (n : Int) := by omega
      have ra : IntKind.i64.wrap ((x : Int) + (i : Int)) = (x : Int) + (i : Int) := by rw [IntKind.wrap_i64]; omega
      have ec : ((y : Int) + (i : Int)).toNat = jN := by omega
      have pc : (0 : Int) ≤ (y : Int) + (i : Int) := by omega
      have bc : (y : Int) + (i : Int) < (n : Int) := by omega
      have rc : IntKind.i64.wrap ((y : Int) + (i : Int)) = (y : Int) + (i : Int) := by rw [IntKind.wrap_i64]; omega
      obtain ⟨X, hX⟩ : ∃ z, z = dk[x + i]! := ⟨_, rfl⟩
      obtain ⟨Y, hY⟩ : ∃ z, z = dk[y + i]! := ⟨_, rfl⟩
      have hYn : Y < n := by rw [hY]; exact S2.out.rg _ (by omega)
      have c1 : wr.cell? ⟨B, off + iN, none⟩ = some (.int .i64 (X : Int)) := by rw [hiN, hX]; exact S2.out.cell _ (by omega)
      have c2 : wr.cell? ⟨B, off + jN, none⟩ = some (.int .i64 (Y : Int)) := by rw [hjN, hY]; exact S2.out.cell _ (by omega)
      obtain ⟨u, c3⟩ : ∃ u : Nat, (wr.setCell ⟨B, off + iN, none⟩ (.int .i64 (Y : Int))).cell? ⟨B, off + jN, none⟩ = some (.int .i64 (u : Int)) := by rw [hiN, hjN]; exact S2.out.c2 (x + i) (y + i) (by omega) (by omega) Y hYn
      have f1 : wr.frozen? ⟨B, off + iN, none⟩ = false := S2.out.frozen _
      have f2 : wr.frozen? ⟨B, off + jN, none⟩ = false := S2.out.frozen _
      have S3 : SR w0 B off n (swp dk (x + i) (y + i)) ((wr.setCell ⟨B, off + iN, none⟩ (.int .i64 (Y : Int))).setCell ⟨B, off + jN, none⟩ (.int .i64 (X : Int))).drew := by rw [hiN, hjN, hX, hY]; exact S2.out.swp (x + i) (y + i) (by omega) (by omega)
      replace S3 := hid1 S3
      clear hX hY hiN hjN S2
      go_wp2_with fail
      go_big_region
      clear c1 c2 c3 f1 f2
      generalize ((wr.setCell ⟨B, off + iN, none⟩ (.int .i64 (Y : Int))).setCell ⟨B, off + jN, none⟩ (.int .i64 (X : Int))).drew = w3 at S3 ⊢
      clear ea ec
      go_wp2
      go_roundg (k - (i + 1))
      case measure => omega
      case rel => exact ⟨i + 1, swp dk (x + i) (y + i), by go_num, by omega, Nat.le_refl _, S3, hid1 (HO.out.step hlt hx hxy hy (by rw [hsd.out]; exact hb))⟩
    · obtain rfl : i = k := by omega
      have hltz : ¬ (i : Int) < (i : Int) := by omega
      go_wp2
      go_end0
      exact ⟨rfl, dk, HO.out, S2.out⟩

set_option maxRecDepth 100000 in
set_option maxHeartbeats 4000000 in
theorem rot_any {w0 w : World} {B off n : Nat} {d : Array Nat} (S0 : SR w0 B off n d w) {a m b : Nat} (ham : a < m) (hmb : m < b) (hb : b ≤ n) (hn : n < 1000000000) (cap : Nat) (fv : Value) :
    Calls Try.prog 79 #[.slice (some ⟨B, off, none⟩) n cap, .int .i64 (a : Int), .int .i64 (m : Int), .int .i64 (b : Int), fv] w fun e w' => e = .returned (.tuple #[]) ∧ ∃ dn, PermIn a b d dn ∧ (∀ t, dn[t]! = rotF (d[·]!) a m b t) ∧ SR w0 B off n dn w' := by
  have R0 : Rot a b m (m - a) (b - m) d (rotF (d[·]!) a m b) d := ⟨permIn_refl _ _ _, by omega, by omega, by omega, fun t => by rw [show m - (m - a) = a by omega, show m + (b - m) = b by omega]⟩
  have S0 := hid1 S0
  replace R0 := hid1 R0
  obtain ⟨i0, hi0⟩ : ∃ q, q = m - a := ⟨_, rfl⟩
  obtain ⟨j0, hj0⟩ : ∃ q, q = b - m := ⟨_, rfl⟩
  have ri : IntKind.i64.wrap ((m : Int) - (a : Int)) = (i0 : Int) := by rw [IntKind.wrap_i64]; omega
  have rj : IntKind.i64.wrap ((b : Int) - (m : Int)) = (j0 : Int) := by rw [IntKind.wrap_i64]; omega
  rw [← hi0, ← hj0] at R0
  have hi0 := hid1 hi0
  have hj0 := hid1 hj0
  obtain ⟨T, hT⟩ : ∃ T, T = rotF (d[·]!) a m b := ⟨_, rfl⟩
  rw [← hT] at R0 ⊢
  clear hT
  go_enter Try.func79, Try.ntmps79
  go_wp2
  go_loopg [10, 11] (i0 + j0) (fun g1 vi vj wr => ∃ (i j : Nat) (dk : Array Nat), vi = .int .i64 i ∧ vj = .int .i64 j ∧ i + j ≤ g1 ∧ Hid (SR w0 B off n dk wr) ∧ Hid (Rot a b m i j d T dk))
  case atStart => exact ⟨i0, j0, d, by first | rfl | rw [hi0.out], by first | rfl | rw [hj0.out], by omega, S0, R0⟩
  case round =>
    clear S0 R0 ri rj hi0 hj0
    obtain ⟨i, j, dk, rfl, rfl, hg1, S1, R⟩ := hrel
    obtain ⟨_, ⟨l1, l2⟩, l3, ⟨l4, l5⟩, _⟩ := R.out
    obtain ⟨x, hx⟩ : ∃ q, q = m - i := ⟨_, rfl⟩
    have rx : IntKind.i64.wrap ((m : Int) - (i : Int)) = (x : Int) := by rw [IntKind.wrap_i64]; omega
    by_cases hij : i = j
    · subst hij
      have c1 := exg_any S1.out (a := a) (b := b) (x := m - i) (y := m) (k := i) l1 (by omega) l3 hb hn cap fv
      rw [← hx] at c1
      replace hx := hid1 hx
      have hne : ((i : Int) != (i : Int)) = false := by simp
      go_wp2_with (go_at_call 80; refine c1.mono ?_; rintro e w' ⟨rfl, dn, X, S2⟩)
      go_end0
      rw [hx.out] at X
      obtain ⟨h1, h2⟩ := R.out.last X
      exact ⟨rfl, dn, h1, h2, S2⟩
    · have hne : ((i : Int) != (j : Int)) = true := by simp; omega
      by_cases hlt : j < i
      · have c1 := exg_any S1.out (a := a) (b := b) (x := m - i) (y := m) (k := j) l1 (by omega) l3 hb hn cap fv
        rw [← hx] at c1
        replace hx := hid1 hx
        have hlz : (j : Int) < (i : Int) := by omega
        obtain ⟨i2, hi2⟩ : ∃ q, q = i - j := ⟨_, rfl⟩
        have r2 : IntKind.i64.wrap ((i : Int) - (j : Int)) = (i2 : Int) := by rw [IntKind.wrap_i64]; omega
        replace hi2 := hid1 hi2
        go_wp2_with (go_at_call 80; refine c1.mono ?_; rintro e w' ⟨rfl, dn, X, S2⟩)
        go_roundg (i2 + j)
        case measure => have := hi2.out; omega
        case rel =>
          rw [hx.out] at X
          exact ⟨i2, j, dn, rfl, rfl, Nat.le_refl _, hid1 S2, hid1 (by rw [hi2.out]; exact R.out.left hlt X)⟩
      · have c1 := exg_any S1.out (a := a) (b := b) (x := m - i) (y := m + j - i) (k := i) l1 (by omega) (by omega) hb hn cap fv
        rw [← hx] at c1
        obtain ⟨y, hy⟩ : ∃ q, q = m + j - i := ⟨_, rfl⟩
        rw [← hy] at c1
        have ry1 : IntKind.i64.wrap ((m : Int) + (j : Int)) = (m : Int) + (j : Int) := by rw [IntKind.wrap_i64]; omega
        have ry : IntKind.i64.wrap ((m : Int) + (j : Int) - (i : Int)) = (y : Int) := by rw [IntKind.wrap_i64]; omega
        replace hy := hid1 hy
        replace hx := hid1 hx
        have hlz : ¬ (j : Int) < (i : Int) := by omega
        obtain ⟨j2, hj2⟩ : ∃ q, q = j - i := ⟨_, rfl⟩
        have r2 : IntKind.i64.wrap ((j : Int) - (i : Int)) = (j2 : Int) := by rw [IntKind.wrap_i64]; omega
        replace hj2 := hid1 hj2
        go_wp2_with (go_at_call 80; refine c1.mono ?_; rintro e w' ⟨rfl, dn, X, S2⟩)
        go_roundg (i + j2)
        case measure => have := hj2.out; omega
        case rel =>
          rw [hx.out, hy.out] at X
          exact ⟨i, j2, dn, rfl, rfl, Nat.le_refl _, hid1 S2, hid1 (by rw [hj2.out]; exact R.out.right (by omega) X)⟩
end Go.Proofs.Ytecppcakgfohbab
