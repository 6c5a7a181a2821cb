/- The ways through the law MemAdds. -/
import Derived.Test.YteeocnknocoefabOpen
namespace Go.Proofs.Yteeocnknocoefab
open Go.RowKit

/-- The sum, wrapped round, of the first k of some numbers. -/
def sumF (Z : Nat → Nat) : Nat → Nat
  | 0 => 0
  | k + 1 => sumW (sumF Z k) (Z k)
/-- The sum of the last k of len. -/
def sumB (Z : Nat → Nat) (len : Nat) : Nat → Nat
  | 0 => 0
  | k + 1 => sumW (sumB Z len k) (Z (len - 1 - k))

def plain (Z : Nat → Nat) : Nat → Nat
  | 0 => 0
  | k + 1 => plain Z k + Z k
def plainB (Z : Nat → Nat) (len : Nat) : Nat → Nat
  | 0 => 0
  | k + 1 => plainB Z len k + Z (len - 1 - k)

theorem sumF_eq (Z : Nat → Nat) (k : Nat) : sumF Z k = plain Z k % 18446744073709551616 := by
  induction k with
  | zero => rfl
  | succ k ih => rw [sumF, plain, ih, sumW]; omega
theorem sumB_eq (Z : Nat → Nat) (len k : Nat) : sumB Z len k = plainB Z len k % 18446744073709551616 := by
  induction k with
  | zero => rfl
  | succ k ih => rw [sumB, plainB, ih, sumW]; omega
theorem plain_split (Z : Nat → Nat) (len k : Nat) (h : k ≤ len) : plain Z (len - k) + plainB Z len k = plain Z len := by
  induction k with
  | zero => simp [plainB]
  | succ k ih =>
    have e : len - k = (len - (k + 1)) + 1 := by omega
    have ih' := ih (by omega)
    rw [e, plain] at ih'
    have e2 : len - (k + 1) = len - 1 - k := by omega
    rw [e2] at ih'
    rw [plainB, e2]
    omega
theorem sumB_all (Z : Nat → Nat) (len : Nat) : sumB Z len len = sumF Z len := by
  have h := plain_split Z len len (Nat.le_refl _)
  rw [Nat.sub_self] at h
  rw [sumB_eq, sumF_eq, ← h]
  simp [plain]

theorem sumF_lt (Z : Nat → Nat) (k : Nat) : sumF Z k < 18446744073709551616 := by rw [sumF_eq]; exact Nat.mod_lt _ (by omega)
theorem sumB_lt (Z : Nat → Nat) (len k : Nat) : sumB Z len k < 18446744073709551616 := by rw [sumB_eq]; exact Nat.mod_lt _ (by omega)

set_option maxHeartbeats 1000000 in
theorem adds_long (ad : Option Addr) (len cap : Nat) (h : 300 < len) (w : World) :
    Calls Try.prog 6 #[.slice ad len cap] w fun e w' => e = .returned (.bool true) ∧ Below w.heap.size w w' := by
  go_enter Try.func6, Try.ntmps6
  go_wp2_with (go_at_call 8; refine (awake_any _).mono ?_; rintro e w' ⟨rfl, hb⟩)
  go_ret
  exact ⟨rfl, hb⟩

/-- A memory of one word, told by its word and its touches alone. -/
def OneMem (w : World) (M G x t : Nat) : Prop := ∃ s : MS, IsMem w M G s ∧ s.X = [x] ∧ s.t = (t : Int)

theorem one_add {w : World} {M G x t : Nat} (h : OneMem w M G x t) (v : Nat) (ht : t < 4611686018427387904) :
    Calls Try.prog 17 #[.pointer (some ⟨M, 0, none⟩), .int .i64 0, .int .u64 v] w fun e w' => e = .returned (.int .u64 (sumW x v : Nat)) ∧ OneMem w' M G (sumW x v) (t + 1) ∧ Only M G w w' := by
  obtain ⟨s, hm, hX, hT⟩ := h
  have c := add_in hm 0 v (by simp [hX]) (by omega)
  rw [hX] at c
  exact c.mono fun _ _ ⟨h1, h2, h3⟩ => ⟨h1, ⟨_, h2, by simp [touched, hX], by simp [touched, hT]⟩, h3⟩

theorem one_load {w : World} {M G x t : Nat} (h : OneMem w M G x t) (ht : t < 4611686018427387904) :
    Calls Try.prog 19 #[.pointer (some ⟨M, 0, none⟩), .int .i64 0] w fun e w' => e = .returned (.int .u64 (x : Nat)) ∧ OneMem w' M G x (t + 1) ∧ Only M G w w' := by
  obtain ⟨s, hm, hX, hT⟩ := h
  have c := load_in hm 0 (by simp [hX]) (by omega)
  rw [hX] at c
  exact c.mono fun _ _ ⟨h1, h2, h3⟩ => ⟨h1, ⟨_, h2, by simp [touched, hX], by simp [touched, hT]⟩, h3⟩

theorem one_swap {w : World} {M G x t : Nat} (h : OneMem w M G x t) (v : Nat) (hv : v < 18446744073709551616) (ht : t < 4611686018427387904) :
    Calls Try.prog 18 #[.pointer (some ⟨M, 0, none⟩), .int .i64 0, .int .u64 x, .int .u64 v] w fun e w' => e = .returned (.bool true) ∧ OneMem w' M G v (t + 1) ∧ Only M G w w' := by
  obtain ⟨s, hm, hX, hT⟩ := h
  have c := swap_yes hm 0 x v (by simp [hX]) hv (by simp [hX]) (by omega)
  exact c.mono fun _ _ ⟨h1, h2, h3⟩ => ⟨h1, ⟨_, h2, by simp [touched, hX], by simp [touched, hT]⟩, h3⟩

theorem OneMem.other {w w' : World} {M G M' G' x t : Nat} (h : OneMem w M G x t) (ho : Only M' G' w w') (h1 : M ≠ M') (h2 : M ≠ G') (h3 : G ≠ M') (h4 : G ≠ G') : OneMem w' M G x t := by
  obtain ⟨s, hm, hX, hT⟩ := h
  exact ⟨s, hm.other ho h1 h2 h3 h4, hX, hT⟩
theorem OneMem.below {w w' : World} {M G x t : Nat} (h : OneMem w M G x t) (hb : Below w.heap.size w w') : OneMem w' M G x t := by
  obtain ⟨s, hm, hX, hT⟩ := h
  exact ⟨s, hm.below hb, hX, hT⟩
theorem OneMem.lt {w : World} {M G x t : Nat} (h : OneMem w M G x t) : M < w.heap.size ∧ G < w.heap.size := by
  obtain ⟨s, hm, _, _⟩ := h
  exact ⟨hm.M_lt, hm.G_lt⟩

theorem new_one (w : World) : Calls Try.prog 9 #[.int .i64 1] w fun e w' => ∃ M G, e = .returned (.pointer (some ⟨M, 0, none⟩)) ∧ OneMem w' M G 0 0 ∧ w.heap.size ≤ M ∧ w.heap.size ≤ G ∧ Below w.heap.size w w' :=
  (new_any 1 (by omega) w).mono fun _ _ ⟨M, G, h1, h2, h3, h4, h5⟩ => ⟨M, G, h1, ⟨_, h2, rfl, rfl⟩, h3, h4, h5⟩

set_option maxHeartbeats 1000000 in
theorem adds_short {w : World} {b off len cap : Nat} {Z : Nat → Nat} (hl : len ≤ 300) (hb : b < w.heap.size)
    (hZ : ∀ i, i < len → w.cell? ⟨b, off + i, none⟩ = some (.int .u64 (Z i))) (bZ : ∀ i, i < len → Z i < 18446744073709551616) :
    Calls Try.prog 6 #[.slice (some ⟨b, off, none⟩) len cap] w fun e w' => e = .returned (.bool true) ∧ Below w.heap.size w w' := by
  go_enter Try.func6, Try.ntmps6
  go_wp2_with (first
    | (go_at_call 8; refine (awake_any _).mono ?_; rintro e w1 ⟨rfl, hb1⟩))
  go_wp2_with (first
    | (go_at_call 9; refine (new_one w1).mono ?_; rintro e w2 ⟨M, G, rfl, hm, hM, hG, hb2⟩)
    | (go_at_call 9; refine (new_one w2).mono ?_; rintro e w3 ⟨M2, G2, rfl, hm2, hM2, hG2, hb3⟩))
  have hlt := hm.lt
  have hm' := hm.below hb3
  have b12 := hb1.trans (hb2.mono hb1.size)
  have b13 := b12.trans (hb3.mono b12.size)
  have s1 := hb1.size
  have s2 := hb2.size
  have D : Hid (M ≠ M2 ∧ M ≠ G2 ∧ G ≠ M2 ∧ G ≠ G2 ∧ w.heap.size ≤ M ∧ w.heap.size ≤ G ∧ w.heap.size ≤ M2 ∧ w.heap.size ≤ G2) := ⟨by omega, by omega, by omega, by omega, by omega, by omega, by omega, by omega⟩
  clear hm hlt hb1 hb2 hb3 hM hG hM2 hG2 b12 s1 s2
  go_loopw [5, 6] (fun u i wr => ∃ k : Nat, k ≤ len ∧ i = .int .i64 k ∧ u = .int .u64 (sumF Z k : Nat) ∧ OneMem wr M G (sumB Z len k) k ∧ OneMem wr M2 G2 (sumF Z k) (2 * k) ∧ Below w.heap.size w wr) (fun _ i _ => len - (intOf i).toNat)
  case atStart => exact ⟨0, Nat.zero_le _, rfl, rfl, hm', hm2, b13⟩
  case round =>
    obtain ⟨k, hk, rfl, rfl, m1, m2, hbel⟩ := hrel
    clear hm' hm2 b13
    by_cases hkl : k < len
    · have g0 : wr.cell? ⟨b, off + k, none⟩ = some (.int .u64 (Z k)) := (hbel.cell hb).trans (hZ k hkl)
      have g1 : wr.cell? ⟨b, off + (len - 1 - k), none⟩ = some (.int .u64 (Z (len - 1 - k))) := (hbel.cell hb).trans (hZ _ (by omega))
      have hbw : b < wr.heap.size := Nat.lt_of_lt_of_le hb hbel.size
      have hbM : b ≠ M ∧ b ≠ G := by have := D.out; omega
      have e1 : Hid (sumB Z len (k + 1) = sumW (sumB Z len k) (Z (len - 1 - k))) := rfl
      have e2 : Hid (sumF Z (k + 1) = sumW (sumF Z k) (Z k)) := rfl
      have e3 := sumW_eq (sumF Z k) (Z k)
      have lt2 : sumW (sumF Z k) (Z k) < 18446744073709551616 := sumW_lt _ _
      clear hZ bZ
      generalize hv : Z k = v at *
      generalize hv' : Z (len - 1 - k) = v' at *
      generalize hf : sumF Z k = x at *
      generalize hg : sumB Z len k = y at *
      clear hv hv' hf hg
      go_wp2_with (first
        | (go_at_call 17; refine (one_add m1 v' (by omega)).mono ?_; rintro e w4 ⟨rfl, m1', o1⟩; have g0' := (o1.cell (x := ⟨b, off + k, none⟩) hbw hbM.1 hbM.2).trans g0; have m2' := m2.other o1 (Ne.symm D.out.1) (Ne.symm D.out.2.2.1) (Ne.symm D.out.2.1) (Ne.symm D.out.2.2.2.1))
        | (go_at_call 19; refine (one_load m2' (by omega)).mono ?_; rintro e w5 ⟨rfl, m2'', o2⟩)
        | (go_at_call 18; refine (one_swap m2'' _ lt2 (by omega)).mono ?_; rintro e w6 ⟨rfl, m2f, o3⟩))
      go_roundw
      case rel =>
        have d := D.out
        have n1 : OneMem w6 M G (sumB Z len (k + 1)) (k + 1) := by
          rw [e1.out]
          exact (m1'.other o2 d.1 d.2.1 d.2.2.1 d.2.2.2.1).other o3 d.1 d.2.1 d.2.2.1 d.2.2.2.1
        have n2 : OneMem w6 M2 G2 (sumF Z (k + 1)) (2 * (k + 1)) := by
          rw [e2.out]
          exact m2f
        have n3 : Below w.heap.size w w6 := (o2.trans o3).below (o1.below hbel d.2.2.2.2.1 d.2.2.2.2.2.1 (Nat.le_refl _)) d.2.2.2.2.2.2.1 d.2.2.2.2.2.2.2 (Nat.le_refl _)
        exact ⟨k + 1, by omega, by go_num, by rw [e2.out], n1, n2, n3⟩
      case measure => simp [intOf]; omega
    · have hkn : k = len := by omega
      subst hkn
      clear hZ bZ
      rw [sumB_all] at m1
      generalize hf : sumF Z k = x at *
      clear hf
      go_wp2_with (first
        | (go_at_call_of 19 (Value.pointer (some ⟨M, 0, none⟩)); refine (one_load m1 (by omega)).mono ?_; rintro e w4 ⟨rfl, m1', o1⟩; have m2' := m2.other o1 (Ne.symm D.out.1) (Ne.symm D.out.2.2.1) (Ne.symm D.out.2.1) (Ne.symm D.out.2.2.2.1))
        | (go_at_call_of 19 (Value.pointer (some ⟨M2, 0, none⟩)); refine (one_load m2' (by omega)).mono ?_; rintro e w5 ⟨rfl, m2'', o2⟩)
        | (go_at_call 8; refine (awake_any _).mono ?_; rintro e w6 ⟨rfl, hb6⟩))
      go_ret
      have d := D.out
      have n3 : Below w.heap.size w w5 := o2.below (o1.below hbel d.2.2.2.2.1 d.2.2.2.2.2.1 (Nat.le_refl _)) d.2.2.2.2.2.2.1 d.2.2.2.2.2.2.2 (Nat.le_refl _)
      exact ⟨rfl, n3.trans (hb6.mono n3.size)⟩

set_option maxHeartbeats 1000000 in
theorem adds_empty (ad : Option Addr) (cap : Nat) (w : World) :
    Calls Try.prog 6 #[.slice ad 0 cap] w fun e w' => e = .returned (.bool true) ∧ Below w.heap.size w w' := by
  go_enter Try.func6, Try.ntmps6
  go_wp2_with (first
    | (go_at_call 8; refine (awake_any _).mono ?_; rintro e w1 ⟨rfl, hb1⟩))
  go_wp2_with (first
    | (go_at_call 9; refine (new_one w1).mono ?_; rintro e w2 ⟨M, G, rfl, hm, hM, hG, hb2⟩)
    | (go_at_call 9; refine (new_one w2).mono ?_; rintro e w3 ⟨M2, G2, rfl, hm2, hM2, hG2, hb3⟩))
  have hlt := hm.lt
  have m1 := hm.below hb3
  have b12 := hb1.trans (hb2.mono hb1.size)
  have hbel := b12.trans (hb3.mono b12.size)
  have s1 := hb1.size
  have s2 := hb2.size
  have D : Hid (M ≠ M2 ∧ M ≠ G2 ∧ G ≠ M2 ∧ G ≠ G2 ∧ w.heap.size ≤ M ∧ w.heap.size ≤ G ∧ w.heap.size ≤ M2 ∧ w.heap.size ≤ G2) := ⟨by omega, by omega, by omega, by omega, by omega, by omega, by omega, by omega⟩
  clear hm hlt hb1 hb2 hb3 hM hG hM2 hG2 b12 s1 s2
  refine wp_loop_rounds 1 ?_
  rw [rounds_succ]
  go_wp2_with (first
    | (go_at_call_of 19 (Value.pointer (some ⟨M, 0, none⟩)); refine (one_load m1 (by omega)).mono ?_; rintro e w4 ⟨rfl, m1', o1⟩; have m2' := hm2.other o1 (Ne.symm D.out.1) (Ne.symm D.out.2.2.1) (Ne.symm D.out.2.1) (Ne.symm D.out.2.2.2.1))
    | (go_at_call_of 19 (Value.pointer (some ⟨M2, 0, none⟩)); refine (one_load m2' (by omega)).mono ?_; rintro e w5 ⟨rfl, m2'', o2⟩)
    | (go_at_call 8; refine (awake_any _).mono ?_; rintro e w6 ⟨rfl, hb6⟩))
  go_ret
  have d := D.out
  have n3 : Below w.heap.size w w5 := o2.below (o1.below hbel d.2.2.2.2.1 d.2.2.2.2.2.1 (Nat.le_refl _)) d.2.2.2.2.2.2.1 d.2.2.2.2.2.2.2 (Nat.le_refl _)
  exact ⟨rfl, n3.trans (hb6.mono n3.size)⟩
end Go.Proofs.Yteeocnknocoefab
