/- slices.insertionSortCmpFunc. -/
import Derived.Test.YtecppcakgfohbabHS
namespace Go.Proofs.Ytecppcakgfohbab
open Go.RowKit Go.Sort

set_option maxRecDepth 100000 in
set_option maxHeartbeats 4000000 in
theorem ins_any {p q : Value} {cf : Nat → Nat → Int} {w0 w : World} {B off n : Nat} (hC : CmpW p q cf w0 B off n) {d : Array Nat} (S0 : SR w0 B off n d w) {a b : Nat} (hab : a ≤ b) (hb : b ≤ n) (hn : n < 1000000000) (cap : Nat) :
    Calls Try.prog 76 #[.slice (some ⟨B, off, none⟩) n cap, .int .i64 (a : Int), .int .i64 (b : Int), .func (.func 47) #[] #[p, q]] w fun e w' => e = .returned (.tuple #[]) ∧ SR w0 B off n (insertionSort (ltN cf) d a b) w' := by
  have hsd := S0.len
  have S0 := hid1 S0
  have HC := hid1 hC
  clear hC
  replace hsd := hid1 hsd
  go_enter Try.func76, Try.ntmps76
  go_wp2
  go_loopg [8] (b - a) (fun g1 vi wr => ∃ (i : Nat) (dk : Array Nat), vi = .int .i64 i ∧ a < i ∧ i ≤ b + 1 ∧ b + 1 - i ≤ g1 + 1 ∧ Hid (SR w0 B off n dk wr) ∧ Hid (insOuter (ltN cf) a b i dk = insOuter (ltN cf) a b (a + 1) d))
  case atStart => exact ⟨a + 1, d, by go_num, by omega, by omega, by omega, S0, hid1 rfl⟩
  case round =>
    clear S0
    obtain ⟨i, dk, rfl, hai, hib, hg1, S1, HO⟩ := hrel
    by_cases hlt : i < b
    · have hltz : (i : Int) < (b : Int) := by omega
      go_wp2
      go_loopg [9] i (fun g2 vj wr2 => ∃ (j : Nat) (dj : Array Nat), vj = .int .i64 j ∧ a ≤ j ∧ j ≤ i ∧ j ≤ g2 ∧ Hid (SR w0 B off n dj wr2) ∧ Hid (insInner (ltN cf) a j dj = insInner (ltN cf) a i dk))
      case atStart => exact ⟨i, dk, rfl, by omega, Nat.le_refl _, Nat.le_refl _, S1, hid1 rfl⟩
      case round =>
        clear S1
        obtain ⟨j, dj, rfl, haj, hji, hg2, SJ, HI⟩ := hrel
        have out : (j ≤ a ∨ (ltN cf) dj[j]! dj[j - 1]! = false) → Hid (insOuter (ltN cf) a b (i + 1) dj = insOuter (ltN cf) a b (a + 1) d) := fun hs => by
          show _ = _
          rw [← HO.out, insOuter_go _ _ _ _ _ hlt, ← HI.out, insInner_stop _ _ _ _ hs]
        have OUT := hid1 out
        clear out
        by_cases hja : a < j
        · have hjaz : (a : Int) < (j : Int) := by omega
          obtain ⟨jp, hjp⟩ : ∃ q, q + 1 = j := ⟨j - 1, by omega⟩
          have zjp : (j : Int) = (jp : Int) + 1 := by omega
          have hjad : decide ((jp : Int) + 1 > (a : Int)) = true := decide_eq_true (by omega)
          have hjaz' : (a : Int) < (jp : Int) + 1 := by omega
          obtain ⟨iN, hiN⟩ : ∃ q, q = j := ⟨_, rfl⟩
          obtain ⟨jN, hjN⟩ : ∃ q, q = j - 1 := ⟨_, rfl⟩
          have ea : ((jp : Int) + 1).toNat = iN := by omega
          have pa : (0 : Int) ≤ (jp : Int) + 1 := by omega
          have ba : (jp : Int) + 1 < (n : Int) := by omega
          have ra : IntKind.i64.wrap ((jp : Int) + 1) = (jp : Int) + 1 := by rw [IntKind.wrap_i64]; omega
          have ec : ((jp : Int)).toNat = jN := by omega
          have pc : (0 : Int) ≤ (jp : Int) := by omega
          have bc : (jp : Int) < (n : Int) := by omega
          have rc : IntKind.i64.wrap ((jp : Int)) = (jp : Int) := by rw [IntKind.wrap_i64]; omega
          obtain ⟨x, hx⟩ : ∃ x, x = dj[j]! := ⟨_, rfl⟩
          obtain ⟨y, hy⟩ : ∃ x, x = dj[j - 1]! := ⟨_, rfl⟩
          have hxn : x < n := by rw [hx]; exact SJ.out.rg _ (by omega)
          have hyn : y < n := by rw [hy]; exact SJ.out.rg _ (by omega)
          have la := hid1 (fun (w' : World) (b : Below wr.heap.size wr w') => (SJ.out.below b).cell j (by omega))
          have lb := hid1 (fun (w' : World) (b : Below wr.heap.size wr w') => (SJ.out.below b).cell (j - 1) (by omega))
          rw [← hx, ← hiN] at la
          rw [← hy, ← hjN] at lb
          cases hlv : (ltN cf) dj[j]! dj[j - 1]! with
          | true =>
            have hv : cf x y < 0 := by rw [hx, hy]; exact of_decide_eq_true hlv
            have hdv : decide (cf x y < 0) = true := decide_eq_true hv
            have ix := hid1 (And.intro hx hy)
            have iz := hid1 (And.intro hiN hjN)
            clear hx hy hiN hjN
            go_wp2_with fail
            refine region_below (by kernel_rfl) (by kernel_rfl) ?_
            repeat (first | go_big_quiet_skip | (go_big_quiet_want; go_big_quiet_op; first | go_big_quiet_on | (refine ⟨_, fun _ _ => rfl, ?_⟩; go_big_quiet_on) | (refine ⟨.int .i64 (x : Int), ?_, ?_⟩; (focus (intro w' hw'; have l := la.out w' hw'; simp [l, nv, Result.andThen]; done)); go_big_quiet_on) | (refine ⟨.int .i64 (y : Int), ?_, ?_⟩; (focus (intro w' hw'; have l := lb.out w' hw'; simp [l, nv, Result.andThen]; done)); go_big_quiet_on) | (with_reducible refine ⟨_, (fun w' hw' => HC.out.at SJ.out hxn hyn hw'), ?_⟩; go_big_quiet_on)))
            refine wpQuiet_nil ?_
            intro w8 hb8
            have S2 := hid1 (SJ.out.below hb8)
            clear la lb SJ hb8
            go_wp2_with fail
            obtain ⟨hx, hy⟩ := ix.out
            obtain ⟨hiN, hjN⟩ := iz.out
            have c1 : w8.cell? ⟨B, off + iN, none⟩ = some (.int .i64 (x : Int)) := by rw [hiN, hx]; exact S2.out.cell j (by omega)
            have c2 : w8.cell? ⟨B, off + jN, none⟩ = some (.int .i64 (y : Int)) := by rw [hjN, hy]; exact S2.out.cell (j - 1) (by omega)
            obtain ⟨u, c3⟩ : ∃ u : Nat, (w8.setCell ⟨B, off + iN, none⟩ (.int .i64 (y : Int))).cell? ⟨B, off + jN, none⟩ = some (.int .i64 (u : Int)) := by rw [hiN, hjN]; exact S2.out.c2 j (j - 1) (by omega) (by omega) y hyn
            have f1 : w8.frozen? ⟨B, off + iN, none⟩ = false := S2.out.frozen _
            have f2 : w8.frozen? ⟨B, off + jN, none⟩ = false := S2.out.frozen _
            have S3 : SR w0 B off n (swp dj j (j - 1)) ((w8.setCell ⟨B, off + iN, none⟩ (.int .i64 (y : Int))).setCell ⟨B, off + jN, none⟩ (.int .i64 (x : Int))).drew := by rw [hiN, hjN, hx, hy]; exact S2.out.swp j (j - 1) (by omega) (by omega)
            replace S3 := hid1 S3
            clear hx hy hiN hjN S2
            go_big_region
            clear c1 c2 c3 f1 f2
            generalize ((w8.setCell ⟨B, off + iN, none⟩ (.int .i64 (y : Int))).setCell ⟨B, off + jN, none⟩ (.int .i64 (x : Int))).drew = w3 at S3 ⊢
            clear ea ec
            go_wp2
            go_roundg (j - 1)
            case measure => omega
            case rel => exact ⟨j - 1, swp dj j (j - 1), by first | rfl | go_num | (congr 1; omega), by omega, by omega, Nat.le_refl _, S3, hid1 (by rw [← HI.out, insInner_go (ltN cf) a j dj hja hlv])⟩
          | false =>
            have hv : ¬ cf x y < 0 := by rw [hx, hy]; exact of_decide_eq_false hlv
            have hdv : decide (cf x y < 0) = false := decide_eq_false hv
            clear hx hy hiN hjN
            go_wp2_with fail
            refine region_below (by kernel_rfl) (by kernel_rfl) ?_
            repeat (first | go_big_quiet_skip | (go_big_quiet_want; go_big_quiet_op; first | go_big_quiet_on | (refine ⟨_, fun _ _ => rfl, ?_⟩; go_big_quiet_on) | (refine ⟨.int .i64 (x : Int), ?_, ?_⟩; (focus (intro w' hw'; have l := la.out w' hw'; simp [l, nv, Result.andThen]; done)); go_big_quiet_on) | (refine ⟨.int .i64 (y : Int), ?_, ?_⟩; (focus (intro w' hw'; have l := lb.out w' hw'; simp [l, nv, Result.andThen]; done)); go_big_quiet_on) | (with_reducible refine ⟨_, (fun w' hw' => HC.out.at SJ.out hxn hyn hw'), ?_⟩; go_big_quiet_on)))
            refine wpQuiet_nil ?_
            intro w8 hb8
            have S2 := hid1 (SJ.out.below hb8)
            clear la lb SJ hb8
            go_wp2
            go_roundg (b - (i + 1))
            case measure => omega
            case rel => exact ⟨i + 1, dj, by go_num, by omega, by omega, by omega, S2, OUT.out (Or.inr hlv)⟩
        · have hjaz : decide ((j : Int) > (a : Int)) = false := decide_eq_false (by omega)
          have hjaz' : ¬ (a : Int) < (j : Int) := by omega
          go_wp2_with fail
          refine region_below (by kernel_rfl) (by kernel_rfl) ?_
          repeat (first | go_big_quiet_skip | (go_big_quiet_want; go_big_quiet_op; first | go_big_quiet_on | (refine ⟨_, fun _ _ => rfl, ?_⟩; go_big_quiet_on)))
          refine wpQuiet_nil ?_
          intro w8 hb8
          have S2 := hid1 (SJ.out.below hb8)
          clear SJ hb8
          go_wp2
          go_roundg (b - (i + 1))
          case measure => omega
          case rel => exact ⟨i + 1, dj, by go_num, by omega, by omega, by omega, S2, OUT.out (Or.inl (by omega))⟩
    · have hltz : ¬ (i : Int) < (b : Int) := by omega
      go_wp2
      go_end0
      exact ⟨rfl, by unfold insertionSort; rw [← HO.out, insOuter_stop _ _ _ _ _ hlt]; exact S1.out⟩
end Go.Proofs.Ytecppcakgfohbab
