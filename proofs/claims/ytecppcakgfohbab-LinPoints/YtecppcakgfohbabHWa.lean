/- slices.symMergeCmpFunc, where a part is one number alone. -/
import Derived.Test.YtecppcakgfohbabHS
import Derived.Laws.Shifts
namespace Go.Proofs.Ytecppcakgfohbab
open Go.RowKit Go.Sort

set_option maxRecDepth 100000 in
set_option maxHeartbeats 8000000 in
theorem symA {p q : Value} {cf : Nat → Nat → Int} (hS : SWO (ltN cf)) {w0 w : World} {B off n : Nat} (hC : CmpW p q cf w0 B off n) {d : Array Nat} (S0 : SR w0 B off n d w) {a m b : Nat} (ham : a < m) (hmb : m < b) (hb : b ≤ n) (hn : n < 1000000000) (cap : Nat) (H1 : Srt (ltN cf) a m d) (H2 : Srt (ltN cf) m b d) (H3 : Crs a m b d) (hm : m = a + 1) :
    Calls Try.prog 77 #[.slice (some ⟨B, off, none⟩) n cap, .int .i64 (a : Int), .int .i64 (m : Int), .int .i64 (b : Int), .func (.func 47) #[] #[p, q]] w fun e w' => e = .returned (.tuple #[]) ∧ ∃ dn, Mgd (ltN cf) a b d dn ∧ SR w0 B off n dn w' := by
  have hsd := hid1 S0.len
  replace S0 := hid1 S0
  have HC := hid1 hC
  replace hS := hid1 hS
  replace H1 := hid1 H1
  replace H2 := hid1 H2
  replace H3 := hid1 H3
  clear hC
  have rm : m - a = 1 := by omega
  have rb : ((m : Int) - (a : Int) == 1) = true := by simp; omega
  replace hm := hid1 hm
  go_enter Try.func77, Try.ntmps77
  go_wp2
  go_loopg [10, 11] (b - m) (fun g1 vi vj wr => ∃ (i j : Nat), vi = .int .i64 i ∧ vj = .int .i64 j ∧ m ≤ i ∧ i ≤ j ∧ j ≤ b ∧ j - i ≤ g1 ∧ Hid (SR w0 B off n d wr) ∧ Hid ((∀ k, m ≤ k → k < i → rl (ltN cf) d[k]! d[a]! = true) ∧ ∀ k, j ≤ k → k < b → rl (ltN cf) d[a]! d[k]! = true))
  case atStart => exact ⟨m, b, rfl, rfl, Nat.le_refl _, by omega, Nat.le_refl _, Nat.le_refl _, S0, hid1 ⟨fun k h1 h2 => by omega, fun k h1 h2 => by omega⟩⟩
  case round =>
    clear S0
    obtain ⟨i, j, rfl, rfl, hmi, hij, hjb, hg1, S1, I⟩ := hrel
    by_cases hlt : i < j
    · have hltz : (i : Int) < (j : Int) := by omega
      obtain ⟨h, hh⟩ : ∃ h, h = (i + j) / 2 := ⟨_, rfl⟩
      have zh : ((i : Int) + (j : Int)) / 2 = (h : Int) := by omega
      have zh2 : (i + j) / 2 = h := hh.symm
      have h1 : i ≤ h ∧ h < j := by omega
      obtain ⟨h1a, h1b⟩ := h1
      have hhn : (h : Int) < (n : Int) := by omega
      have han : (a : Int) < (n : Int) := by omega
      replace hh := hid1 hh
      obtain ⟨x, hx⟩ : ∃ x, x = d[h]! := ⟨_, rfl⟩
      obtain ⟨y, hy⟩ : ∃ x, x = d[a]! := ⟨_, rfl⟩
      have hxn : x < n := by rw [hx]; exact S1.out.rg _ (by omega)
      have hyn : y < n := by rw [hy]; exact S1.out.rg _ (by omega)
      have la := hid1 (fun (w' : World) (b : Below wr.heap.size wr w') => (S1.out.below b).cell h (by omega))
      have lb := hid1 (fun (w' : World) (b : Below wr.heap.size wr w') => (S1.out.below b).cell a (by omega))
      rw [← hx] at la
      rw [← hy] at lb
      have hyx : d[a]! < d[h]! := H3.out a h (Nat.le_refl _) ham (by omega) (by omega)
      replace hyx := hid1 hyx
      have ix := hid1 (And.intro hx hy)
      cases hlv : ltN cf x y with
      | true =>
        have hv : cf x y < 0 := of_decide_eq_true hlv
        have hdv : decide (cf x y < 0) = true := decide_eq_true hv
        clear hx hy
        replace zh := hid1 zh
        replace zh2 := hid1 zh2
        go_wp2_with fail
        rw [zh.out]
        refine region_below (by kernel_rfl) (by kernel_rfl) ?_
        repeat (first | go_big_quiet_skip | (go_big_quiet_want; go_big_quiet_op; first | go_big_quiet_on | (refine ⟨_, fun _ _ => rfl, ?_⟩; go_big_quiet_on) | (refine ⟨.int .i64 (x : Int), ?_, ?_⟩; (focus (intro w' hw'; have l := la.out w' hw'; simp [l, nv, Result.andThen]; done)); go_big_quiet_on) | (refine ⟨.int .i64 (y : Int), ?_, ?_⟩; (focus (intro w' hw'; have l := lb.out w' hw'; simp [l, nv, Result.andThen]; done)); go_big_quiet_on) | (with_reducible refine ⟨_, (fun w' hw' => HC.out.at S1.out hxn hyn hw'), ?_⟩; go_big_quiet_on)))
        refine wpQuiet_nil ?_
        intro w8 hb8
        have S2 := hid1 (S1.out.below hb8)
        clear la lb S1 hb8
        obtain ⟨hx, hy⟩ := ix.out
        have I2 := hid1 (And.intro (bsA_lo hS.out H2.out (by omega) (by omega) hyx.out (by rw [← hx, ← hy]; exact hlv)) I.out.2)
        clear hx hy
        go_wp2
        go_roundg (j - (h + 1))
        case measure => omega
        case rel => exact ⟨h + 1, j, by go_num, rfl, by omega, by omega, hjb, Nat.le_refl _, S2, I2⟩
      | false =>
        have hv : ¬ cf x y < 0 := of_decide_eq_false hlv
        have hdv : decide (cf x y < 0) = false := decide_eq_false hv
        clear hx hy
        replace zh := hid1 zh
        replace zh2 := hid1 zh2
        go_wp2_with fail
        rw [zh.out]
        refine region_below (by kernel_rfl) (by kernel_rfl) ?_
        repeat (first | go_big_quiet_skip | (go_big_quiet_want; go_big_quiet_op; first | go_big_quiet_on | (refine ⟨_, fun _ _ => rfl, ?_⟩; go_big_quiet_on) | (refine ⟨.int .i64 (x : Int), ?_, ?_⟩; (focus (intro w' hw'; have l := la.out w' hw'; simp [l, nv, Result.andThen]; done)); go_big_quiet_on) | (refine ⟨.int .i64 (y : Int), ?_, ?_⟩; (focus (intro w' hw'; have l := lb.out w' hw'; simp [l, nv, Result.andThen]; done)); go_big_quiet_on) | (with_reducible refine ⟨_, (fun w' hw' => HC.out.at S1.out hxn hyn hw'), ?_⟩; go_big_quiet_on)))
        refine wpQuiet_nil ?_
        intro w8 hb8
        have S2 := hid1 (S1.out.below hb8)
        clear la lb S1 hb8
        obtain ⟨hx, hy⟩ := ix.out
        have I2 := hid1 (And.intro I.out.1 (bsA_hi hS.out H2.out (by omega) hyx.out (by rw [← hx, ← hy]; exact hlv)))
        clear hx hy
        go_wp2
        go_roundg (h - i)
        case measure => omega
        case rel => exact ⟨i, h, rfl, rfl, hmi, by omega, by omega, Nat.le_refl _, S2, I2⟩
    · obtain rfl : i = j := by omega
      have hltz : ¬ (i : Int) < (i : Int) := by omega
      go_wp2
      go_loopg [13] (i - 1 - a) (fun g2 vk wr => ∃ (k : Nat) (dk : Array Nat), vk = .int .i64 k ∧ a ≤ k ∧ k ≤ i - 1 ∧ i - 1 - k ≤ g2 ∧ Hid (SR w0 B off n dk wr) ∧ Hid (ShU a b k d dk))
      case atStart => exact ⟨a, d, rfl, Nat.le_refl _, by omega, Nat.le_refl _, S1, hid1 (ShU.start a b d)⟩
      case round =>
        clear S1
        obtain ⟨k, dk, rfl, hak, hki, hg2, S1, K⟩ := hrel
        have ri : IntKind.i64.wrap ((i : Int) - 1) = (i : Int) - 1 := by rw [IntKind.wrap_i64]; omega
        by_cases hlt : k < i - 1
        · have hltz : (k : Int) < (i : Int) - 1 := by omega
          obtain ⟨iN, hiN⟩ : ∃ q, q = k := ⟨_, rfl⟩
          obtain ⟨jN, hjN⟩ : ∃ q, q = k + 1 := ⟨_, rfl⟩
          have ea : ((k : Int)).toNat = iN := by omega
          have pa : (0 : Int) ≤ (k : Int) := by omega
          have ba : (k : Int) < (n : Int) := by omega
          have ec : ((k : Int) + 1).toNat = jN := by omega
          have pc : (0 : Int) ≤ (k : Int) + 1 := by omega
          have bc : (k : Int) + 1 < (n : Int) := by omega
          have rc : IntKind.i64.wrap ((k : Int) + 1) = (k : Int) + 1 := by rw [IntKind.wrap_i64]; omega
          obtain ⟨X, hX⟩ : ∃ z, z = dk[k]! := ⟨_, rfl⟩
          obtain ⟨Y, hY⟩ : ∃ z, z = dk[k + 1]! := ⟨_, rfl⟩
          have hYn : Y < n := by rw [hY]; exact S1.out.rg _ (by omega)
          have c1 : wr.cell? ⟨B, off + iN, none⟩ = some (.int .i64 (X : Int)) := by rw [hiN, hX]; exact S1.out.cell _ (by omega)
          have c2 : wr.cell? ⟨B, off + jN, none⟩ = some (.int .i64 (Y : Int)) := by rw [hjN, hY]; exact S1.out.cell _ (by omega)
          obtain ⟨u, c3⟩ : ∃ u : Nat, (wr.setCell ⟨B, off + iN, none⟩ (.int .i64 (Y : Int))).cell? ⟨B, off + jN, none⟩ = some (.int .i64 (u : Int)) := by rw [hiN, hjN]; exact S1.out.c2 (k) (k + 1) (by omega) (by omega) Y hYn
          have f1 : wr.frozen? ⟨B, off + iN, none⟩ = false := S1.out.frozen _
          have f2 : wr.frozen? ⟨B, off + jN, none⟩ = false := S1.out.frozen _
          have S3 : SR w0 B off n (swp dk (k) (k + 1)) ((wr.setCell ⟨B, off + iN, none⟩ (.int .i64 (Y : Int))).setCell ⟨B, off + jN, none⟩ (.int .i64 (X : Int))).drew := by rw [hiN, hjN, hX, hY]; exact S1.out.swp (k) (k + 1) (by omega) (by omega)
          replace S3 := hid1 S3
          clear hX hY hiN hjN S1
          go_wp2_with fail
          go_big_region
          clear c1 c2 c3 f1 f2
          generalize ((wr.setCell ⟨B, off + iN, none⟩ (.int .i64 (Y : Int))).setCell ⟨B, off + jN, none⟩ (.int .i64 (X : Int))).drew = w3 at S3 ⊢
          clear ea ec
          go_wp2
          go_roundg (i - 1 - (k + 1))
          case measure => omega
          case rel => exact ⟨k + 1, swp dk k (k + 1), by go_num, by omega, by omega, Nat.le_refl _, S3, hid1 (K.out.step hak (by omega) (by rw [hsd.out]; exact hb))⟩
        · obtain rfl : k = i - 1 := by omega
          have hltz : ¬ ((i - 1 : Nat) : Int) < (i : Int) - 1 := by omega
          go_wp2
          exact bodyPost_ret (results_none rfl _ _ _) rfl ⟨rfl, dk, ⟨K.out.perm, K.out.srt (by have := hm.out; omega) hjb (by rw [← hm.out]; exact H2.out) (by rw [← hm.out]; exact I.out.1) I.out.2⟩, S1.out⟩
end Go.Proofs.Ytecppcakgfohbab
