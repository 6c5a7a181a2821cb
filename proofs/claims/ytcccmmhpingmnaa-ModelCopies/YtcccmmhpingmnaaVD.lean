/- The document's example, and the model's config. -/
import Derived.Test.YtcccmmhpingmnaaVC
namespace Go.Proofs.Ytcccmmhpingmnaa
open Go.RowKit

/-- The law's config. -/
def K17 : Cg := ⟨4, 2, 2, 3, 9, 0⟩
theorem config_any (w : World) : Calls Try.prog 10 #[] w fun r w' => r = .returned (.agg (cs 4 2 2 3 9 0)) ∧ Below w.heap.size w w' := by
  go_enter Try.func10, Try.ntmps10
  go_wp2
  refine bodyPost_ret (results_cell_row rfl _ _ _ 26 _ (0, 0) _ rfl (new_obj w _) Try.underlying26 rfl (by kernel_rfl)) rfl ?_
  exact ⟨rfl, alloc_below _ _⟩
theorem does_at {b : Nat} {w0 w : World} {B : Nat} {C : Cg} {n : Nat} {X X2 : Sx} {who kd cN : Int} {cH cX cY : Nat} {aE : Int} {aH : Nat} {aY : Bool} (hds : dsO C X who kd cN cH cX cY aE aH aY = some X2) (h : IsM w B (Lb b w) C n X) {N : Nat} (iv : X.Inv N) (b0 : Below b w0 w) (hb : b ≤ w0.heap.size) (hN : N < 1000000) (hn : n < 1000000) (hCa : C.a ≤ 8)
    {hI xI yI aI : Int} (e1 : hI = (cH : Nat)) (e2 : xI = (cX : Nat)) (e3 : yI = (cY : Nat)) (e4 : aI = (aH : Nat)) (hcH : cH < 18446744073709551616) (hcX : cX < 18446744073709551616) (hcY : cY < 18446744073709551616) (hH : aH < 18446744073709551616) :
    Calls Try.prog 16 #[.pointer (some ⟨B, 0, none⟩), .int .i64 who, .agg #[.int .i64 kd, .int .i64 cN, .int .u64 hI, .int .u64 xI, .int .u64 yI], .agg #[.int .i64 aE, .int .u64 aI, .bool aY]] w fun r w' => r = .returned (.bool true) ∧ IsM w' B (Lb b w') C (n + 2) X2 ∧ X2.Inv (N + 1) ∧ Below b w0 w' := by
  subst e1 e2 e3 e4
  exact (does_Lb h b0 hb iv hN hn hCa who kd cN hcH hcX hcY aE hH aY).mono fun r w' ⟨h1, h2, h3⟩ => ⟨by rw [h1, hds]; rfl, by rw [hds] at h2; exact h2, inv_ds iv (by obtain ⟨m, h⟩ := h; exact h.nc) hCa hH hds, h3⟩
theorem mheld_M {w : World} {B : Nat} {L : Nat → Prop} {C : Cg} {n : Nat} {X : Sx} (h : IsM w B L C n X) {N : Nat} (iv : X.Inv N) (who : Int) : Calls Try.prog 22 #[.pointer (some ⟨B, 0, none⟩), .int .i64 who] w fun r w' => r = .returned (.int .i64 (heldF who X.H : Nat)) ∧ w = w' := by
  obtain ⟨m, h⟩ := h
  exact mheld_any h iv who
theorem mnode_M {w : World} {B : Nat} {L : Nat → Prop} {C : Cg} {n : Nat} {X : Sx} (h : IsM w B L C n X) {N : Nat} (iv : X.Inv N) (who : Int) {q : Nat} (hq : q < 18446744073709551616) : Calls Try.prog 23 #[.pointer (some ⟨B, 0, none⟩), .int .i64 who, .int .u64 (q : Nat)] w fun r w' => r = .returned (.int .i64 (nodeF who q X.H)) ∧ w = w' := by
  obtain ⟨m, h⟩ := h
  exact mnode_any h iv who hq
theorem mfield_M {w : World} {B : Nat} {L : Nat → Prop} {C : Cg} {n : Nat} {X : Sx} (h : IsM w B L C n X) (p i : Int) : Calls Try.prog 25 #[.pointer (some ⟨B, 0, none⟩), .int .i64 p, .int .i64 i] w fun r w' => r = .returned (.int .i64 (mfF X p i)) ∧ w = w' := by
  obtain ⟨m, h⟩ := h
  exact mfield_any h p i
def aw1 : Sx := ⟨[[-1]], [⟨0, 5, 0⟩], [0, 0], [[], []], [5]⟩
def aw2 : Sx := ⟨[[0]], [⟨0, 5, 0⟩], [0, 0], [[], []], [5]⟩
def aw3 : Sx := ⟨[[0]], [⟨0, 5, 0⟩, ⟨0, 6, 0⟩], [0, 0], [[], []], [5, 6]⟩
def aw5 : Sx := ⟨[[0]], [⟨0, 5, 0⟩, ⟨0, 6, 0⟩], [9, 0], [[0], []], [5, 6, 9]⟩
def aw6 : Sx := ⟨[[-1]], [⟨0, 5, 0⟩, ⟨0, 6, 0⟩], [9, 0], [[0], []], [5, 6, 9]⟩
def aw7 : Sx := ⟨[[-1]], [⟨0, 5, 0⟩, ⟨0, 6, 0⟩, ⟨0, 7, 0⟩], [9, 0], [[], []], [5, 6, 9, 7]⟩
theorem ds1 : dsO K17 (sx0 2) 0 1 1 0 0 0 0 5 false = some aw1 := by kernel_rfl
theorem ds2 : dsO K17 aw1 0 3 0 5 5 0 0 0 false = some aw2 := by kernel_rfl
theorem ds3 : dsO K17 aw2 0 2 0 5 0 0 0 6 false = some aw3 := by kernel_rfl
theorem ds4 : dsO K17 aw3 0 7 0 5 6 0 0 0 true = some aw3 := by kernel_rfl
theorem ds5 : dsO K17 aw3 0 8 0 5 0 0 0 9 false = some aw5 := by kernel_rfl
theorem ds6 : dsO K17 aw5 0 4 0 5 0 0 0 0 false = some aw6 := by kernel_rfl
theorem ds7 : dsO K17 aw6 0 9 0 9 0 0 0 7 false = some aw7 := by kernel_rfl
theorem ds8 : dsO K17 aw7 0 9 0 9 0 0 6 0 false = some aw7 := by kernel_rfl
theorem mnode_7 {w : World} {B : Nat} {L : Nat → Prop} {C : Cg} {n : Nat} (h : IsM w B L C n aw7) {N : Nat} (iv : aw7.Inv N) : Calls Try.prog 23 #[.pointer (some ⟨B, 0, none⟩), .int .i64 0, .int .u64 7] w fun r w' => r = .returned (.int .i64 0) ∧ w = w' := mnode_M h iv 0 (q := 7) (by decide)
theorem K17_right : rightB K17.s K17.a (K17.c : Nat) K17.d K17.g K17.k = true := by decide
set_option maxHeartbeats 16000000 in
theorem awake_any (w : World) : Calls Try.prog 11 #[] w fun r w' => r = .returned (.bool true) ∧ Below w.heap.size w w' := by
  have cN : ∀ w0 : World, Calls Try.prog 9 #[.agg (cs 4 2 2 3 9 0)] w0 fun r w' => ∃ B, r = .returned (.pointer (some ⟨B, 0, none⟩)) ∧ Below w0.heap.size w0 w' ∧ IsM w' B (Lb w0.heap.size w') K17 0 (sx0 2) := new_yes K17 K17_right
  have hn : ∀ {n : Nat}, n < 100 → n < 1000000 := fun h => Nat.lt_of_lt_of_le h (by decide)
  have q : ∀ {n : Nat}, n < 100 → n < 18446744073709551616 := fun h => Nat.lt_of_lt_of_le h (by decide)
  have ha : K17.a ≤ 8 := by decide
  have L0 := Nat.le_refl w.heap.size
  go_enter Try.func11, Try.ntmps11
  go_upto_region 2 with (first
    | (go_at_call 10; with_reducible refine (config_any _).mono ?_; rintro r wc ⟨rfl, bc⟩)
    | (go_at_call 9; with_reducible refine (cN _).mono ?_; rintro r w0 ⟨B, rfl, b0, m0⟩))
  have hb : w.heap.size ≤ wc.heap.size := bc.size
  have b00 := bc.trans (b0.mono hb)
  have m00 : IsM w0 B (Lb w.heap.size w0) K17 0 (sx0 2) := m0.up fun i hi => ⟨Nat.le_trans hb hi.1, hi.2⟩
  clear cN m0 b0 hb bc
  have iv0 := sx0_inv 2
  go_wp2_with (first
    | (go_at_call 16; with_reducible refine (does_at (hI := 0) (xI := 0) (yI := 0) (aI := 5) ds1 m00 iv0 b00 L0 (hn (by decide)) (hn (by decide)) ha rfl rfl rfl rfl (q (by decide)) (q (by decide)) (q (by decide)) (q (by decide))).mono ?_; rintro r w1 ⟨rfl, m1, iv1, b1⟩; clear m00 iv0 b00)
    | (go_at_call 16; with_reducible refine (does_at (hI := 5) (xI := 5) (yI := 0) (aI := 0) ds2 m1 iv1 b1 L0 (hn (by decide)) (hn (by decide)) ha rfl rfl rfl rfl (q (by decide)) (q (by decide)) (q (by decide)) (q (by decide))).mono ?_; rintro r w2 ⟨rfl, m2, iv2, b2⟩; clear m1 iv1 b1)
    | (go_at_call 16; with_reducible refine (does_at (hI := 5) (xI := 0) (yI := 0) (aI := 6) ds3 m2 iv2 b2 L0 (hn (by decide)) (hn (by decide)) ha rfl rfl rfl rfl (q (by decide)) (q (by decide)) (q (by decide)) (q (by decide))).mono ?_; rintro r w3 ⟨rfl, m3, iv3, b3⟩; clear m2 iv2 b2)
    | (go_at_call 16; with_reducible refine (does_at (hI := 5) (xI := 6) (yI := 0) (aI := 0) ds4 m3 iv3 b3 L0 (hn (by decide)) (hn (by decide)) ha rfl rfl rfl rfl (q (by decide)) (q (by decide)) (q (by decide)) (q (by decide))).mono ?_; rintro r w4 ⟨rfl, m4, iv4, b4⟩; clear m3 iv3 b3)
    | (go_at_call 16; with_reducible refine (does_at (hI := 5) (xI := 0) (yI := 0) (aI := 9) ds5 m4 iv4 b4 L0 (hn (by decide)) (hn (by decide)) ha rfl rfl rfl rfl (q (by decide)) (q (by decide)) (q (by decide)) (q (by decide))).mono ?_; rintro r w5 ⟨rfl, m5, iv5, b5⟩; clear m4 iv4 b4)
    | (go_at_call 16; with_reducible refine (does_at (hI := 5) (xI := 0) (yI := 0) (aI := 0) ds6 m5 iv5 b5 L0 (hn (by decide)) (hn (by decide)) ha rfl rfl rfl rfl (q (by decide)) (q (by decide)) (q (by decide)) (q (by decide))).mono ?_; rintro r w6 ⟨rfl, m6, iv6, b6⟩; clear m5 iv5 b5)
    | (go_at_call 16; with_reducible refine (does_at (hI := 9) (xI := 0) (yI := 0) (aI := 7) ds7 m6 iv6 b6 L0 (hn (by decide)) (hn (by decide)) ha rfl rfl rfl rfl (q (by decide)) (q (by decide)) (q (by decide)) (q (by decide))).mono ?_; rintro r w7 ⟨rfl, m7, iv7, b7⟩; clear m6 iv6 b6)
    | (go_at_call 16; with_reducible refine (does_at (hI := 9) (xI := 0) (yI := 0) (aI := 0) ds8 m7 iv7 b7 L0 (hn (by decide)) (hn (by decide)) ha rfl rfl rfl rfl (q (by decide)) (q (by decide)) (q (by decide)) (q (by decide))).mono ?_; rintro r w8 ⟨rfl, m8, iv8, b8⟩; clear m7 iv7 b7)
    | (go_at_call 22; with_reducible refine (mheld_M m8 iv8 0).mono ?_; rintro r w9 ⟨rfl, rfl⟩)
    | (go_at_call 23; with_reducible refine (mnode_7 m8 iv8).mono ?_; rintro r w9 ⟨rfl, rfl⟩)
    | (go_at_call 25; with_reducible refine (mfield_M m8 0 0).mono ?_; rintro r w9 ⟨rfl, rfl⟩))
  go_ret
  exact ⟨rfl, b8⟩
end Go.Proofs.Ytcccmmhpingmnaa
