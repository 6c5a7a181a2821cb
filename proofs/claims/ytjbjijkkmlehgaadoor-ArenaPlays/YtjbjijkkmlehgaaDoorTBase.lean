/- Contracts of package tag's tops and entries: isSlot, join, part, Top, TopParts, Entry, EntryParts, Moved; and of the reference's. -/
import Derived.Test.YtjbjijkkmlehgaaDoorTBits
namespace Go.Proofs.YtjbjijkkmlehgaaDoor.Tg
open Go.RowKit

def isS (n : Int) : Bool := decide (0 ≤ n) && decide (n ≤ 63)
def isS1 (n : Int) : Bool := decide (-1 ≤ n) && decide (n ≤ 63)

theorem isS_yes {n : Int} (h : 0 ≤ n ∧ n ≤ 63) : isS n = true := by simp [isS, h]
theorem isS_no {n : Int} (h : ¬ (0 ≤ n ∧ n ≤ 63)) : isS n = false := by
  cases e : isS n
  · rfl
  · simp [isS] at e; exact absurd e h

set_option maxHeartbeats 400000 in
theorem isSlot_any (n : Int) (b : Bool) (hb : isS n = b) (w : World) : Calls Tryd.prog 76 #[.int .i64 n] w fun e w' => e = .returned (.bool b) ∧ w = w' := by
  subst hb
  go_enter Tryd.func76, Tryd.ntmps76
  go_wp2
  all_goals go_ret
  · refine ⟨congrArg (fun b => Ending.returned (Value.bool b)) ?_, rfl⟩
    have : decide (0 ≤ n) = true := decide_eq_true (by omega)
    rw [isS, this, Bool.true_and]
    exact decide_eq_decide.2 (by omega)
  · refine ⟨congrArg (fun b => Ending.returned (Value.bool b)) ?_, rfl⟩
    exact (isS_no (by omega)).symm

theorem new_at (w : World) (c : Array Value) (t : TypeId) (i : Nat) (v : Value) (h : c[i]? = some v) : (w.alloc (.cells c t)).cell? ⟨w.heap.size, i, none⟩ = some v := by
  have e : (w.alloc (.cells c t)).heap[w.heap.size]? = some (.cells c t) := (MapKept.heap_alloc w _).1
  unfold World.cell?
  simp only [e]
  exact h

theorem seq_below {a b c : World} (h : Below a.heap.size a b) (k : Below b.heap.size b c) : Below a.heap.size a c := h.trans (k.mono h.size)

/-- What 'join' comes to: the word, or none. -/
def joinW (n t S : Nat) : Option Nat := if t < 2 ^ (64 - n) then some (S + t * 2 ^ n) else none

def jN (n : Nat) (i : Nat) : Int := if i = 0 then (n : Int) else ((64 - n : Nat) : Int)
def jV (S t : Nat) (i : Nat) : Nat := if i = 0 then S else t

theorem join_pack (n t S : Nat) (hn : 7 ≤ n ∧ n < 64) (hS : S ≤ 64) : packSt (jN n) (jV S t) 2 = (joinW n t S).map fun x => (x, 64) := by
  have h64 : S < 2 ^ n := Nat.lt_of_lt_of_le (by omega : S < 2 ^ 7) (Nat.pow_le_pow_right (by omega) hn.1)
  obtain ⟨e1, b1⟩ := pack_step_yes (N := jN n) (V := jV S t) (k := 0) (W := 0) (a := 0) (n := n) (v := S) rfl (by decide) rfl (by omega) (by omega) rfl h64
  simp only [Nat.pow_zero, Nat.mul_one, Nat.zero_add] at e1 b1
  unfold joinW
  by_cases ht : t < 2 ^ (64 - n)
  · obtain ⟨e2, _⟩ := pack_step_yes (n := 64 - n) (v := t) e1 b1 rfl (by omega) (by omega) rfl ht
    rw [if_pos ht, e2, show n + (64 - n) = 64 by omega]
    rfl
  · rw [if_neg ht]
    exact pack_step_no (n := 64 - n) e1 rfl ht

theorem join_call (w : World) (n t S : Nat) (hn : 7 ≤ n ∧ n < 64) (hS : S ≤ 64) (ht : t < 18446744073709551616) :
    Calls Tryd.prog 77 #[.slice (some ⟨w.heap.size, 0, none⟩) 2 2] (w.alloc (Obj.cells #[Value.int IntKind.i64 (n : Nat), Value.int IntKind.u64 (S : Nat), Value.int IntKind.i64 ((64 - n : Nat) : Int), Value.int IntKind.u64 (t : Nat)] 116)) fun e w' =>
      e = .returned (.tuple #[.int .u64 (((joinW n t S).getD 0 : Nat) : Int), .bool (joinW n t S).isSome]) ∧ Below w.heap.size w w' := by
  have h := pack_some (jN n) (jV S t) w.heap.size 0 2 2 (w.alloc (Obj.cells #[Value.int IntKind.i64 (n : Nat), Value.int IntKind.u64 (S : Nat), Value.int IntKind.i64 ((64 - n : Nat) : Int), Value.int IntKind.u64 (t : Nat)] 116))
    (fun i hi => by
      have h2 : i = 0 ∨ i = 1 := by omega
      rcases h2 with rfl | rfl <;> exact new_at w _ 116 _ _ rfl)
    (fun i hi => by
      have h2 : i = 0 ∨ i = 1 := by omega
      rcases h2 with rfl | rfl <;> exact new_at w _ 116 _ _ rfl)
    (fun i hi => by unfold jN; split <;> omega) (fun i hi => by unfold jV; split <;> omega) (by omega) (lt_of_block (MapKept.heap_alloc w _).1)
  rw [join_pack n t S hn hS] at h
  refine h.mono fun e w' ⟨h1, h2⟩ => ⟨?_, seq_below ((Below.refl w.heap.size w).alloc (Nat.le_refl _) _) h2⟩
  rw [h1]
  cases joinW n t S <;> rfl

set_option maxHeartbeats 1000000 in
theorem join_no (n t s : Int) (hs : ¬ (-1 ≤ s ∧ s ≤ 63)) (w : World) :
    Calls Tryd.prog 63 #[.int .i64 n, .int .u64 t, .int .i64 s] w fun e w' => e = .returned (.tuple #[.int .u64 0, .bool false]) ∧ Below w.heap.size w w' := by
  have c := isSlot_any s false (isS_no (by omega))
  go_enter Tryd.func63, Tryd.ntmps63
  go_wp2_with (go_at_call 76; refine (c _).mono ?_; rintro e w' ⟨rfl, rfl⟩)
  go_ret2
  exact ⟨rfl, Below.refl _ _⟩

theorem wrap_in (x : Int) (h : 0 ≤ x ∧ x < 18446744073709551616) : IntKind.u64.wrap x = x := by rw [IntKind.wrap_u64]; omega

set_option maxHeartbeats 1000000 in
theorem join_yes (n t S : Nat) (hn : 7 ≤ n ∧ n < 64) (hS : S ≤ 64) (ht : t < 18446744073709551616) (w : World) :
    Calls Tryd.prog 63 #[.int .i64 n, .int .u64 t, .int .i64 ((S : Int) - 1)] w fun e w' =>
      e = .returned (.tuple #[.int .u64 (((joinW n t S).getD 0 : Nat) : Int), .bool (joinW n t S).isSome]) ∧ Below w.heap.size w w' := by
  have c := isSlot_any ((S : Int) - 1) _ rfl
  generalize hb : isS ((S : Int) - 1) = b at c
  go_enter Tryd.func63, Tryd.ntmps63
  have hx : (64 : Int) - n = ((64 - n : Nat) : Int) := by omega
  cases b
  · have h0 : S = 0 := by
      cases S with
      | zero => rfl
      | succ k => rw [isS_yes (by omega)] at hb; cases hb
    subst h0
    go_wp2_with (first
      | (go_at_call 76; refine (c _).mono ?_; rintro e w' ⟨rfl, rfl⟩)
      | (go_at_call 77; refine (join_call w n t 0 hn hS ht).mono ?_; rintro e w' ⟨rfl, b⟩))
    go_ret2
    exact ⟨rfl, b⟩
  · go_wp2_with (first
      | (go_at_call 76; refine (c _).mono ?_; rintro e w' ⟨rfl, rfl⟩)
      | (go_at_call 77; refine (join_call w n t S hn hS ht).mono ?_; rintro e w' ⟨rfl, b⟩))
    go_ret2
    exact ⟨rfl, b⟩

/-- The word of a slot and a tag, and whether there is one. -/
def topW (k : Nat) (t : Nat) (s : Int) : Nat := if isS1 s = true ∧ t < 2 ^ (64 - k) then (s + 1).toNat + t * 2 ^ k else 0
def topOk (k : Nat) (t : Nat) (s : Int) : Bool := isS1 s && decide (t < 2 ^ (64 - k))

theorem join_any (n t : Nat) (s : Int) (hn : 7 ≤ n ∧ n < 64) (ht : t < 18446744073709551616) (w : World) :
    Calls Tryd.prog 63 #[.int .i64 n, .int .u64 t, .int .i64 s] w fun e w' =>
      e = .returned (.tuple #[.int .u64 (topW n t s : Nat), .bool (topOk n t s)]) ∧ Below w.heap.size w w' := by
  by_cases h : -1 ≤ s ∧ s ≤ 63
  · have h1 : isS1 s = true := by simp [isS1, h]
    have h2 := join_yes n t (s + 1).toNat hn (by omega) ht w
    rw [show (((s + 1).toNat : Nat) : Int) - 1 = s by omega] at h2
    have e1 : (joinW n t (s + 1).toNat).getD 0 = topW n t s := by
      unfold joinW topW
      by_cases ht : t < 2 ^ (64 - n)
      · rw [if_pos ht, if_pos ⟨h1, ht⟩]; rfl
      · rw [if_neg ht, if_neg (fun k => ht k.2)]; rfl
    have e2 : (joinW n t (s + 1).toNat).isSome = topOk n t s := by
      unfold joinW topOk
      by_cases ht : t < 2 ^ (64 - n)
      · rw [if_pos ht, h1, decide_eq_true ht]; rfl
      · rw [if_neg ht, h1, decide_eq_false ht]; rfl
    rw [e1, e2] at h2
    exact h2
  · have h1 : isS1 s = false := by
      cases e : isS1 s
      · rfl
      · simp [isS1] at e; exact absurd e h
    have e1 : topW n t s = 0 := by unfold topW; rw [if_neg (by simp [h1])]
    have e2 : topOk n t s = false := by unfold topOk; rw [h1]; rfl
    rw [e1, e2]
    exact join_no n t s h w

set_option maxHeartbeats 400000 in
theorem top_any (t : Nat) (s : Int) (ht : t < 18446744073709551616) (w : World) :
    Calls Tryd.prog 36 #[.int .u64 t, .int .i64 s] w fun e w' => e = .returned (.tuple #[.int .u64 (topW 16 t s : Nat), .bool (topOk 16 t s)]) ∧ Below w.heap.size w w' := by
  have c := join_any 16 t s (by omega) ht
  generalize topW 16 t s = x at *
  generalize topOk 16 t s = y at *
  go_enter Tryd.func36, Tryd.ntmps36
  go_wp2_with (go_at_call 63; refine (c _).mono ?_; rintro e w' ⟨rfl, b⟩)
  go_ret2
  exact ⟨rfl, b⟩

theorem topW_yes {k t : Nat} {s : Int} (h : isS1 s = true) (ht : t < 2 ^ (64 - k)) : topW k t s = (s + 1).toNat + t * 2 ^ k ∧ topOk k t s = true := by
  unfold topW topOk
  rw [if_pos ⟨h, ht⟩, h, decide_eq_true ht]
  exact ⟨rfl, rfl⟩
theorem topW_no {k t : Nat} {s : Int} (h : ¬ (isS1 s = true ∧ t < 2 ^ (64 - k))) : topW k t s = 0 ∧ topOk k t s = false := by
  unfold topW topOk
  rw [if_neg h]
  refine ⟨rfl, ?_⟩
  cases e : isS1 s
  · rfl
  · rw [decide_eq_false (fun k => h ⟨e, k⟩)]; rfl
theorem isS1_iff {s : Int} : isS1 s = true ↔ -1 ≤ s ∧ s ≤ 63 := by simp [isS1]

theorem getN_div (W a n : Nat) : getN W a n = W / 2 ^ a % 2 ^ n := rfl

theorem get_hi16 (W : Nat) (hW : W < 18446744073709551616) (w : World) : Calls Tryd.prog 68 #[.int .u64 (W : Nat), .int .i64 16, .int .i64 48] w fun e w' => e = .returned (.int .u64 (W / 65536 : Nat)) ∧ ∃ m, w' = w.drewN m := by
  have h := get_yes W 16 48 hW (by omega) (by omega) w
  rw [show getN W 16 48 = W / 65536 from (getN_div W 16 48).trans (Nat.mod_eq_of_lt (by omega))] at h
  exact h
theorem get_lo16 (W : Nat) (hW : W < 18446744073709551616) (w : World) : Calls Tryd.prog 68 #[.int .u64 (W : Nat), .int .i64 0, .int .i64 16] w fun e w' => e = .returned (.int .u64 (W % 65536 : Nat)) ∧ ∃ m, w' = w.drewN m := by
  have h := get_yes W 0 16 hW (by omega) (by omega) w
  rw [show getN W 0 16 = W % 65536 by rw [getN_div, Nat.pow_zero, Nat.div_one]] at h
  exact h

set_option maxHeartbeats 1000000 in
theorem part16_any (W : Nat) (hW : W < 18446744073709551616) (w : World) :
    Calls Tryd.prog 102 #[.int .u64 W, .int .i64 16] w fun e w' => e = .returned (.tuple #[.int .u64 (W / 65536 : Nat), .int .i64 (((W % 65536 : Nat) : Int) - 1)]) ∧ Below w.heap.size w w' := by
  have c1 := get_hi16 W hW
  have c2 := get_lo16 W hW
  have hb : ((W % 65536 : Nat) : Int) < 65536 := by omega
  have hb2 : 0 ≤ ((W % 65536 : Nat) : Int) := by omega
  generalize W / 65536 = x at *
  generalize ((W % 65536 : Nat) : Int) = y at *
  clear hW
  generalize (W : Int) = z at *
  go_enter Tryd.func102, Tryd.ntmps102
  go_wp2_with (go_at_call 68; first | (with_reducible refine (c1 _).mono ?_; rintro e w1 ⟨rfl, m1, rfl⟩) | (with_reducible refine (c2 _).mono ?_; rintro e w2 ⟨rfl, m2, rfl⟩))
  go_ret2
  exact ⟨rfl, below_drewN (Below.refl _ _) _⟩
theorem get_hi32 (W : Nat) (hW : W < 18446744073709551616) (w : World) : Calls Tryd.prog 68 #[.int .u64 (W : Nat), .int .i64 32, .int .i64 32] w fun e w' => e = .returned (.int .u64 (W / 4294967296 : Nat)) ∧ ∃ m, w' = w.drewN m := by
  have h := get_yes W 32 32 hW (by omega) (by omega) w
  rw [show getN W 32 32 = W / 4294967296 from (getN_div W 32 32).trans (Nat.mod_eq_of_lt (by omega))] at h
  exact h
theorem get_lo32 (W : Nat) (hW : W < 18446744073709551616) (w : World) : Calls Tryd.prog 68 #[.int .u64 (W : Nat), .int .i64 0, .int .i64 32] w fun e w' => e = .returned (.int .u64 (W % 4294967296 : Nat)) ∧ ∃ m, w' = w.drewN m := by
  have h := get_yes W 0 32 hW (by omega) (by omega) w
  rw [show getN W 0 32 = W % 4294967296 by rw [getN_div, Nat.pow_zero, Nat.div_one]] at h
  exact h

set_option maxHeartbeats 1000000 in
theorem part32_any (W : Nat) (hW : W < 18446744073709551616) (w : World) :
    Calls Tryd.prog 102 #[.int .u64 W, .int .i64 32] w fun e w' => e = .returned (.tuple #[.int .u64 (W / 4294967296 : Nat), .int .i64 (((W % 4294967296 : Nat) : Int) - 1)]) ∧ Below w.heap.size w w' := by
  have c1 := get_hi32 W hW
  have c2 := get_lo32 W hW
  have hb : ((W % 4294967296 : Nat) : Int) < 4294967296 := by omega
  have hb2 : 0 ≤ ((W % 4294967296 : Nat) : Int) := by omega
  generalize W / 4294967296 = x at *
  generalize ((W % 4294967296 : Nat) : Int) = y at *
  clear hW
  generalize (W : Int) = z at *
  go_enter Tryd.func102, Tryd.ntmps102
  go_wp2_with (go_at_call 68; first | (with_reducible refine (c1 _).mono ?_; rintro e w1 ⟨rfl, m1, rfl⟩) | (with_reducible refine (c2 _).mono ?_; rintro e w2 ⟨rfl, m2, rfl⟩))
  go_ret2
  exact ⟨rfl, below_drewN (Below.refl _ _) _⟩

set_option maxHeartbeats 400000 in
theorem topParts_any (W : Nat) (hW : W < 18446744073709551616) (w : World) :
    Calls Tryd.prog 99 #[.int .u64 W] w fun e w' => e = .returned (.tuple #[.int .u64 (W / 65536 : Nat), .int .i64 (((W % 65536 : Nat) : Int) - 1)]) ∧ Below w.heap.size w w' := by
  have c := part16_any W hW
  generalize W / 65536 = x at *
  generalize ((W % 65536 : Nat) : Int) - 1 = y at *
  go_enter Tryd.func99, Tryd.ntmps99
  go_wp2_with (go_at_call 102; refine (c _).mono ?_; rintro e w' ⟨rfl, b⟩)
  go_ret2
  exact ⟨rfl, b⟩

/-- A slot's number and 1, or 0. -/
def sl (s : Int) : Nat := if 0 ≤ s ∧ s ≤ 63 then (s + 1).toNat else 0
theorem sl_le (s : Int) : sl s ≤ 64 := by unfold sl; split <;> omega

/-- The next top. -/
def movedW (W : Nat) (s : Int) : Nat := sl s + (W / 65536 + 1) % 281474976710656 * 65536

theorem setN_mod (W a n V : Nat) : setN W a n V = setN W a n (V % 2 ^ n) := by
  apply Nat.eq_of_testBit_eq
  intro i
  unfold setN
  rw [testBit_bitsOf, testBit_bitsOf]
  congr 1
  by_cases h : a ≤ i ∧ i < a + n
  · simp only [if_pos h, Nat.testBit_mod_two_pow, show i - a < n by omega, decide_true, Bool.true_and]
  · simp only [if_neg h]

theorem set_moved (S V : Nat) (hS : S ≤ 64) (hV : V < 18446744073709551616) (w : World) :
    Calls Tryd.prog 92 #[.int .u64 (S : Nat), .int .i64 16, .int .i64 48, .int .u64 (V : Nat)] w fun e w' => e = .returned (.int .u64 ((S + V % 281474976710656 * 65536 : Nat) : Int)) ∧ w = w' := by
  have h := set_yes S 16 48 V (by omega) hV (by omega) (by omega) w
  rw [setN_mod, (setN_add S 16 48 (V % 2 ^ 48) (by omega) (by omega) (by omega)).1] at h
  exact h

set_option maxHeartbeats 1000000 in
theorem moved_any (W : Nat) (s : Int) (hW : W < 18446744073709551616) (w : World) :
    Calls Tryd.prog 95 #[.int .u64 W, .int .i64 s] w fun e w' => e = .returned (.int .u64 (movedW W s : Nat)) ∧ Below w.heap.size w w' := by
  have c := topParts_any W hW
  have c2 := set_moved (sl s) (W / 65536 + 1) (sl_le s) (by omega)
  have hm : Hid (movedW W s = sl s + (W / 65536 + 1) % 281474976710656 * 65536) := rfl
  rw [show ((W / 65536 + 1 : Nat) : Int) = ((W / 65536 : Nat) : Int) + 1 by omega] at c2
  have hx : 0 ≤ ((W / 65536 : Nat) : Int) ∧ ((W / 65536 : Nat) : Int) < 281474976710656 := by omega
  generalize sl s + (W / 65536 + 1) % 281474976710656 * 65536 = R at *
  generalize ((W / 65536 : Nat) : Int) = x at *
  generalize ((W % 65536 : Nat) : Int) - 1 = y at *
  rw [hm.out]
  clear hm hW
  generalize (W : Int) = z at *
  by_cases hs : 0 ≤ s ∧ s ≤ 63
  · have c1 := isSlot_any s true (isS_yes hs)
    rw [show ((sl s : Nat) : Int) = s + 1 by unfold sl; rw [if_pos hs]; omega] at c2
    go_enter Tryd.func95, Tryd.ntmps95
    go_wp2_with (first
      | (go_at_call 76; refine (c1 _).mono ?_; rintro e w' ⟨rfl, rfl⟩)
      | (go_at_call 99; refine (c _).mono ?_; rintro e w' ⟨rfl, b⟩)
      | (go_at_call 92; refine (c2 _).mono ?_; rintro e w' ⟨rfl, rfl⟩))
    go_ret
    exact ⟨rfl, b⟩
  · have c1 := isSlot_any s false (isS_no hs)
    rw [show ((sl s : Nat) : Int) = 0 by unfold sl; rw [if_neg hs]; rfl] at c2
    go_enter Tryd.func95, Tryd.ntmps95
    go_wp2_with (first
      | (go_at_call 76; refine (c1 _).mono ?_; rintro e w' ⟨rfl, rfl⟩)
      | (go_at_call 99; refine (c _).mono ?_; rintro e w' ⟨rfl, b⟩)
      | (go_at_call 92; refine (c2 _).mono ?_; rintro e w' ⟨rfl, rfl⟩))
    go_ret
    exact ⟨rfl, b⟩
end Go.Proofs.YtjbjijkkmlehgaaDoor.Tg
