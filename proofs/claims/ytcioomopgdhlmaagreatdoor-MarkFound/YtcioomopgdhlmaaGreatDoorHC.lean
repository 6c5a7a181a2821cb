/- Contracts of head's functions over a header's word. -/
import Derived.Test.YtcioomopgdhlmaaGreatDoorHhHHead
namespace Go.Proofs.YtcioomopgdhlmaaGreatDoor.Hh
open Go.RowKit

/-- What is white in an epoch. -/
def whiteH (k m : Int) (e : Nat) : Bool := usedK k && decide (m ≠ blackOf e)

set_option maxHeartbeats 1000000 in
theorem white_any (k m : Int) (g : Bool) (a n s : Int) (e : Nat) (he : e < 18446744073709551616) (w : World) :
    Calls Tryz.prog 52 #[.agg #[.int .i64 k, .int .i64 m, .bool g, .int .i64 a, .int .i64 n, .int .i64 s], .int .u64 (e : Nat)] w fun r w' => r = .returned (.bool (whiteH k m e)) ∧ Below w.heap.size w w' := by
  have c1 := fun w => (used_any k w).mono fun _ _ ⟨h1, h2⟩ => (⟨h1, h2.symm⟩ : _ ∧ _ = _)
  have c2 := fun w => (black_any e he w).mono fun _ _ ⟨h1, h2⟩ => (⟨h1, h2.symm⟩ : _ ∧ _ = _)
  have hwh : Hid (whiteH k m e = (usedK k && decide (m ≠ blackOf e))) := rfl
  generalize whiteH k m e = Z at *
  have bA : ∀ o, Below w.heap.size w (w.alloc o) := fun o => (Below.refl w.heap.size w).alloc (Nat.le_refl _) o
  by_cases hu : usedK k = true
  · rw [hu] at c1
    go_enter Tryz.func52, Tryz.ntmps52
    go_upto_region 1 with fail
    have hh := new_at w #[Value.int IntKind.i64 k, Value.int IntKind.i64 m, Value.bool g, Value.int IntKind.i64 a, Value.int IntKind.i64 n, Value.int IntKind.i64 s] 57
    have h0 := hh 0 _ rfl
    have h1 := hh 1 _ rfl
    have HB : Hid (Below w.heap.size w (w.alloc (Obj.cells #[Value.int IntKind.i64 k, Value.int IntKind.i64 m, Value.bool g, Value.int IntKind.i64 a, Value.int IntKind.i64 n, Value.int IntKind.i64 s] 57))) := bA _
    clear bA hh
    generalize w.alloc (Obj.cells #[Value.int IntKind.i64 k, Value.int IntKind.i64 m, Value.bool g, Value.int IntKind.i64 a, Value.int IntKind.i64 n, Value.int IntKind.i64 s] 57) = w1 at *
    go_quiet (first | (go_at_call 51; exact Calls.quiet_of_same (c1 _)) | (go_at_call 54; exact Calls.quiet_of_same (c2 _)))
    go_wp2
    go_ret
    refine ⟨?_, below_drewN HB.out _⟩
    rw [hwh.out, hu]
    refine congrArg (fun z => Ending.returned (Value.bool z)) ?_
    by_cases hm : m = blackOf e <;> simp [hm]
  · have hu' : usedK k = false := by simpa using hu
    rw [hu'] at c1
    go_enter Tryz.func52, Tryz.ntmps52
    go_upto_region 1 with fail
    have hh := new_at w #[Value.int IntKind.i64 k, Value.int IntKind.i64 m, Value.bool g, Value.int IntKind.i64 a, Value.int IntKind.i64 n, Value.int IntKind.i64 s] 57
    have h0 := hh 0 _ rfl
    have HB : Hid (Below w.heap.size w (w.alloc (Obj.cells #[Value.int IntKind.i64 k, Value.int IntKind.i64 m, Value.bool g, Value.int IntKind.i64 a, Value.int IntKind.i64 n, Value.int IntKind.i64 s] 57))) := bA _
    clear bA hh
    generalize w.alloc (Obj.cells #[Value.int IntKind.i64 k, Value.int IntKind.i64 m, Value.bool g, Value.int IntKind.i64 a, Value.int IntKind.i64 n, Value.int IntKind.i64 s] 57) = w1 at *
    go_quiet (first | (go_at_call 51; exact Calls.quiet_of_same (c1 _)))
    go_wp2
    go_ret
    refine ⟨?_, below_drewN HB.out _⟩
    rw [hwh.out, hu']
    rfl

/-- The numbers of a right header. -/
structure Hr (K M : Nat) (A N S : Nat) : Prop where
  k : K ≤ 4
  m : M < 2
  a : A < 16
  n : N < 4294967296
  s : S < 65536

theorem word_parts {K M : Nat} (g : Bool) {A N S : Nat} (h : Hr K M A N S) :
    wordOf K M g.toNat A N S % 8 = K ∧ wordOf K M g.toNat A N S / 8 % 2 = M ∧ wordOf K M g.toNat A N S / 16 % 2 = g.toNat ∧ wordOf K M g.toNat A N S / 32 % 16 = A ∧ wordOf K M g.toNat A N S / 512 % 128 = 0
      ∧ wordOf K M g.toNat A N S / 65536 % 4294967296 = N ∧ wordOf K M g.toNat A N S / 281474976710656 % 65536 = S ∧ wordOf K M g.toNat A N S < 18446744073709551616 := by
  have hg := bool_lt g
  have := h.k
  have := h.m
  have := h.a
  have := h.n
  have := h.s
  unfold wordOf
  generalize g.toNat = G at *
  refine ⟨?_, ?_, ?_, ?_, ?_, ?_, ?_, ?_⟩ <;> omega

theorem okW_parts {W : Nat} (hW : W < 18446744073709551616) (h : okW W = true) : ∃ K M g A N S, Hr K M A N S ∧ W = wordOf K M (g : Bool).toNat A N S := by
  unfold okW kindOk at h
  rw [getN0, getN4] at h
  simp only [Bool.and_eq_true, decide_eq_true_eq] at h
  obtain ⟨⟨_, h1⟩, h2⟩ := h
  refine ⟨W % 8, W / 8 % 2, decide (W / 16 % 2 = 1), W / 32 % 16, W / 65536 % 4294967296, W / 281474976710656 % 65536, ⟨by omega, by omega, by omega, by omega, by omega⟩, ?_⟩
  have hg : (decide (W / 16 % 2 = 1)).toNat = W / 16 % 2 := by
    by_cases h : W / 16 % 2 = 1
    · simp [h]
    · simp [h]; omega
  rw [hg]
  unfold wordOf
  omega

theorem unpV_word {K M : Nat} (g : Bool) {A N S : Nat} (h : Hr K M A N S) :
    unpV (wordOf K M g.toNat A N S) = .tuple #[.agg #[.int .i64 (K : Nat), .int .i64 (M : Nat), .bool g, .int .i64 (A : Nat), .int .i64 (N : Nat), .int .i64 (S : Nat)], .bool true] := by
  obtain ⟨p0, p1, p2, p3, p4, p5, p6, _⟩ := word_parts g h
  unfold unpV okW kindOk
  rw [getN0, getN1, getN2, getN3, getN4, getN5, getN6, p0, p1, p2, p3, p4, p5, p6]
  have := h.k
  rw [if_pos (by simp; omega)]
  cases g <;> rfl

theorem unpV_bad {W : Nat} (h : okW W = false) : unpV W = .tuple #[.agg #[.int .i64 0, .int .i64 0, .bool false, .int .i64 0, .int .i64 0, .int .i64 0], .bool false] := by
  unfold unpV
  rw [h]
  rfl

theorem okW_word {K M : Nat} (g : Bool) {A N S : Nat} (h : Hr K M A N S) : okW (wordOf K M g.toNat A N S) = true := by
  obtain ⟨p0, _, _, _, p4, _⟩ := word_parts g h
  unfold okW kindOk
  rw [getN0, getN4, p0, p4]
  have := h.k
  simp
  omega

theorem unpack_word {K M : Nat} (g : Bool) {A N S : Nat} (h : Hr K M A N S) (w : World) (hw : WT w) :
    Calls Tryz.prog 50 #[.int .u64 ((wordOf K M g.toNat A N S : Nat) : Int)] w fun e w' => e = .returned (.tuple #[.agg #[.int .i64 (K : Nat), .int .i64 (M : Nat), .bool g, .int .i64 (A : Nat), .int .i64 (N : Nat), .int .i64 (S : Nat)], .bool true]) ∧ Below w.heap.size w w' := by
  rw [← unpV_word g h]
  exact hunpack_any _ (word_parts g h).2.2.2.2.2.2.2 w hw
theorem unpack_bad {W : Nat} (hW : W < 18446744073709551616) (h : okW W = false) (w : World) (hw : WT w) :
    Calls Tryz.prog 50 #[.int .u64 (W : Nat)] w fun e w' => e = .returned (.tuple #[.agg #[.int .i64 0, .int .i64 0, .bool false, .int .i64 0, .int .i64 0, .int .i64 0], .bool false]) ∧ Below w.heap.size w w' := by
  rw [← unpV_bad h]
  exact hunpack_any _ hW w hw
theorem runpack_word {K M : Nat} (g : Bool) {A N S : Nat} (h : Hr K M A N S) (w : World) :
    Calls Tryz.prog 28 #[.int .u64 ((wordOf K M g.toNat A N S : Nat) : Int)] w fun e w' => e = .returned (.tuple #[.agg #[.int .i64 (K : Nat), .int .i64 (M : Nat), .bool g, .int .i64 (A : Nat), .int .i64 (N : Nat), .int .i64 (S : Nat)], .bool true]) ∧ Below w.heap.size w w' := by
  rw [← unpV_word g h]
  exact runpack_any _ (word_parts g h).2.2.2.2.2.2.2 w
theorem runpack_bad {W : Nat} (hW : W < 18446744073709551616) (h : okW W = false) (w : World) :
    Calls Tryz.prog 28 #[.int .u64 (W : Nat)] w fun e w' => e = .returned (.tuple #[.agg #[.int .i64 0, .int .i64 0, .bool false, .int .i64 0, .int .i64 0, .int .i64 0], .bool false]) ∧ Below w.heap.size w w' := by
  rw [← unpV_bad h]
  exact runpack_any _ hW w
theorem pack_word {K M : Nat} (g : Bool) {A N S : Nat} (h : Hr K M A N S) (w : World) (hw : WT w) :
    Calls Tryz.prog 53 #[.agg #[.int .i64 (K : Nat), .int .i64 (M : Nat), .bool g, .int .i64 (A : Nat), .int .i64 (N : Nat), .int .i64 (S : Nat)]] w fun e w' =>
      e = .returned (.tuple #[.int .u64 ((wordOf K M g.toNat A N S : Nat) : Int), .bool true]) ∧ Below w.heap.size w w' := hpack_yes K M g A N S h.k h.m h.a h.n h.s w hw

theorem new_below {w0 w1 w2 : World} {o : Obj} (bel : Below w0.heap.size w0 w1) (b : Below (w1.alloc o).heap.size (w1.alloc o) w2) : Below w0.heap.size w0 w2 :=
  seq_below (bel.alloc bel.size o) b
theorem WT.new {w : World} (h : WT w) (o : Obj) : WT (w.alloc o) := h.below ((Below.refl _ _).alloc (Nat.le_refl _) _)
theorem hd_new (w : World) (k m : Int) (g : Bool) (a n s : Int) : IsHd (w.alloc (.cells #[.int .i64 k, .int .i64 m, .bool g, .int .i64 a, .int .i64 n, .int .i64 s] 57)) w.heap.size k m g a n s := (MapKept.heap_alloc w _).1
theorem hd_past {w1 w2 : World} {o : Obj} {b : Nat} {k m : Int} {g : Bool} {a n s : Int} (h : IsHd w1 b k m g a n s) (hb : Below (w1.alloc o).heap.size (w1.alloc o) w2) : IsHd w2 b k m g a n s :=
  (h.below ((Below.refl _ _).alloc (Nat.le_refl _) o)).below hb

theorem IsHd.cellsN {w : World} {b : Nat} {k m : Int} {g : Bool} {a n s : Int} (h : IsHd w b k m g a n s) :
    (∀ o, (w.alloc o).cell? ⟨b, 0, none⟩ = some (.int .i64 k)) ∧ (∀ o, (w.alloc o).cell? ⟨b, 1, none⟩ = some (.int .i64 m)) ∧ (∀ o, (w.alloc o).cell? ⟨b, 2, none⟩ = some (.bool g)) ∧ (∀ o, (w.alloc o).cell? ⟨b, 3, none⟩ = some (.int .i64 a)) ∧ (∀ o, (w.alloc o).cell? ⟨b, 4, none⟩ = some (.int .i64 n)) ∧ (∀ o, (w.alloc o).cell? ⟨b, 5, none⟩ = some (.int .i64 s)) := by
  have hb := fun o => (h.below ((Below.refl _ _).alloc (Nat.le_refl _) o)).cells
  exact ⟨fun o => (hb o).1, fun o => (hb o).2.1, fun o => (hb o).2.2.1, fun o => (hb o).2.2.2.1, fun o => (hb o).2.2.2.2.1, fun o => (hb o).2.2.2.2.2⟩
theorem WT.set {w : World} (h : WT w) {b o : Nat} (hb : 0 < b) (v : Value) : WT (w.setCell ⟨b, o, none⟩ v) := fun i hi =>
  (World.cell?_of_block (w := w) (Below.heap_setCell w ⟨b, o, none⟩ v 0 (by show 0 ≠ b; omega))).trans (h i hi)

def blackN (e : Nat) : Nat := 1 - e / 4 % 2
theorem black_nat (e : Nat) : blackOf e = ((blackN e : Nat) : Int) := by unfold blackOf blackN; omega
theorem blackN_lt (e : Nat) : blackN e < 2 := by unfold blackN; omega
def bornN (e : Nat) : Nat := if e % 4 = 0 then 1 - blackN e else blackN e
theorem born_nat (e : Nat) : bornOf e = ((bornN e : Nat) : Int) := by
  unfold bornOf bornN
  rw [black_nat]
  have := blackN_lt e
  split <;> omega
theorem bornN_lt (e : Nat) : bornN e < 2 := by unfold bornN; have := blackN_lt e; split <;> omega

theorem tblack_nat (e : Nat) (he : e < 18446744073709551616) (w : World) : Calls Tryz.prog 54 #[.int .u64 (e : Nat)] w fun r w' => r = .returned (.int .i64 ((blackN e : Nat) : Int)) ∧ w = w' := by
  rw [← black_nat]; exact black_any e he w
theorem rblack_nat (e : Nat) (he : e < 18446744073709551616) (w : World) : Calls Tryz.prog 41 #[.int .u64 (e : Nat)] w fun r w' => r = .returned (.int .i64 ((blackN e : Nat) : Int)) ∧ w = w' := by
  rw [← black_nat]; exact rblack_any e he w

set_option maxHeartbeats 4000000 in
theorem right_at (k m : Int) (g : Bool) (a n s : Int) (hm : m = 0 ∨ m = 1) (z : Bool) (hz : Hid (rightH k m a n s = z)) (w : World) :
    Calls Tryz.prog 36 #[.agg #[.int .i64 k, .int .i64 m, .bool g, .int .i64 a, .int .i64 n, .int .i64 s]] w fun e w' => e = .returned (.bool z) ∧ Below w.heap.size w w' := by
  have bA : ∀ o, Below w.heap.size w (w.alloc o) := fun o => (Below.refl w.heap.size w).alloc (Nat.le_refl _) o
  rcases hm with rfl | rfl
  all_goals
    by_cases k1 : 0 ≤ k
    case neg =>
      go_enter Tryz.func36, Tryz.ntmps36
      go_wp2
      go_ret
      exact ⟨congrArg (fun z => Ending.returned (Value.bool z)) (by rw [← hz.out]; unfold rightH; exact (decide_eq_false (by omega)).symm), bA _⟩
    by_cases k2 : k ≤ 4
    case neg =>
      go_enter Tryz.func36, Tryz.ntmps36
      go_wp2
      go_ret
      exact ⟨congrArg (fun z => Ending.returned (Value.bool z)) (by rw [← hz.out]; unfold rightH; exact (decide_eq_false (by omega)).symm), bA _⟩
    by_cases c0 : 0 ≤ a
    case neg =>
      go_enter Tryz.func36, Tryz.ntmps36
      go_wp2
      go_ret
      exact ⟨congrArg (fun z => Ending.returned (Value.bool z)) (by rw [← hz.out]; unfold rightH; exact (decide_eq_false (by omega)).symm), bA _⟩
    by_cases c1 : a ≤ 15
    case neg =>
      go_enter Tryz.func36, Tryz.ntmps36
      go_wp2
      go_ret
      exact ⟨congrArg (fun z => Ending.returned (Value.bool z)) (by rw [← hz.out]; unfold rightH; exact (decide_eq_false (by omega)).symm), bA _⟩
    by_cases c2 : 0 ≤ n
    case neg =>
      go_enter Tryz.func36, Tryz.ntmps36
      go_wp2
      go_ret
      exact ⟨congrArg (fun z => Ending.returned (Value.bool z)) (by rw [← hz.out]; unfold rightH; exact (decide_eq_false (by omega)).symm), bA _⟩
    by_cases c3 : n ≤ 4294967295
    case neg =>
      go_enter Tryz.func36, Tryz.ntmps36
      go_wp2
      go_ret
      exact ⟨congrArg (fun z => Ending.returned (Value.bool z)) (by rw [← hz.out]; unfold rightH; exact (decide_eq_false (by omega)).symm), bA _⟩
    by_cases c4 : 0 ≤ s
    case neg =>
      go_enter Tryz.func36, Tryz.ntmps36
      go_wp2
      go_ret
      exact ⟨congrArg (fun z => Ending.returned (Value.bool z)) (by rw [← hz.out]; unfold rightH; exact (decide_eq_false (by omega)).symm), bA _⟩
    by_cases c5 : s ≤ 65535
    case neg =>
      go_enter Tryz.func36, Tryz.ntmps36
      go_wp2
      go_ret
      exact ⟨congrArg (fun z => Ending.returned (Value.bool z)) (by rw [← hz.out]; unfold rightH; exact (decide_eq_false (by omega)).symm), bA _⟩
    go_enter Tryz.func36, Tryz.ntmps36
    go_wp2
    go_ret
    exact ⟨congrArg (fun z => Ending.returned (Value.bool z)) (by rw [← hz.out]; unfold rightH; exact (decide_eq_true (by omega)).symm), bA _⟩

set_option maxHeartbeats 1000000 in
theorem right_mark (k m : Int) (g : Bool) (a n s : Int) (h0 : ¬ m = 0) (h1 : ¬ m = 1) (z : Bool) (hz : Hid (rightH k m a n s = z)) (w : World) :
    Calls Tryz.prog 36 #[.agg #[.int .i64 k, .int .i64 m, .bool g, .int .i64 a, .int .i64 n, .int .i64 s]] w fun e w' => e = .returned (.bool z) ∧ Below w.heap.size w w' := by
  have bA : ∀ o, Below w.heap.size w (w.alloc o) := fun o => (Below.refl w.heap.size w).alloc (Nat.le_refl _) o
  by_cases k1 : 0 ≤ k
  case neg =>
    go_enter Tryz.func36, Tryz.ntmps36
    go_wp2
    go_ret
    exact ⟨congrArg (fun z => Ending.returned (Value.bool z)) (by rw [← hz.out]; unfold rightH; exact (decide_eq_false (by omega)).symm), bA _⟩
  by_cases k2 : k ≤ 4
  case neg =>
    go_enter Tryz.func36, Tryz.ntmps36
    go_wp2
    go_ret
    exact ⟨congrArg (fun z => Ending.returned (Value.bool z)) (by rw [← hz.out]; unfold rightH; exact (decide_eq_false (by omega)).symm), bA _⟩
  go_enter Tryz.func36, Tryz.ntmps36
  go_wp2
  go_ret
  exact ⟨congrArg (fun z => Ending.returned (Value.bool z)) (by rw [← hz.out]; unfold rightH; exact (decide_eq_false (by omega)).symm), bA _⟩

theorem right_any (k m : Int) (g : Bool) (a n s : Int) (w : World) :
    Calls Tryz.prog 36 #[.agg #[.int .i64 k, .int .i64 m, .bool g, .int .i64 a, .int .i64 n, .int .i64 s]] w fun e w' => e = .returned (.bool (rightH k m a n s)) ∧ Below w.heap.size w w' := by
  by_cases h0 : m = 0
  · exact right_at k m g a n s (.inl h0) _ rfl w
  · by_cases h1 : m = 1
    · exact right_at k m g a n s (.inr h1) _ rfl w
    · exact right_mark k m g a n s h0 h1 _ rfl w
end Go.Proofs.YtcioomopgdhlmaaGreatDoor.Hh
/- Contracts of head's Shaded, Blackened and Marked, and of the document's Lives and Marked. -/
namespace Go.Proofs.YtcioomopgdhlmaaGreatDoor.Hh
open Go.RowKit

theorem region_below {P : Program} {id : Nat} {Q : Exit → Act → World → Prop} {a : Act} {w : World} {l : List Oper} (hm : P.follows .mixedOrders = true) (hB : Region.lexB .any l.toArray = true)
    (h : wpQuiet P l.toArray (fun w' => Below w.heap.size w w') (fun a' => ∀ w', Below w.heap.size w w' → Q .normal a' w') l a) : (Code.region id l.toArray true).wp P Q a w :=
  wp_region_quiet (C := fun w' => Below w.heap.size w w') hm hB ⟨rfl, rfl, rfl, Nat.le_refl _, fun _ _ => rfl⟩ (by simpa using h)

set_option maxHeartbeats 1000000 in
theorem lives_word {K M : Nat} (g : Bool) {A N S : Nat} (h : Hr K M A N S) (w : World) :
    Calls Tryz.prog 33 #[.int .u64 ((wordOf K M g.toNat A N S : Nat) : Int)] w fun r w' => r = .returned (.bool (usedK K)) ∧ Below w.heap.size w w' := by
  have c2 := fun w => runpack_word g h w
  have hk4 := h.k
  clear h
  generalize wordOf K M g.toNat A N S = W at *
  have bel := Below.refl w.heap.size w
  have hk : K = 0 ∨ K = 1 ∨ K = 2 ∨ K = 3 ∨ K = 4 := by omega
  rcases hk with rfl | rfl | rfl | rfl | rfl
  all_goals
    go_enter Tryz.func33, Tryz.ntmps33
    go_wp2_with (first | (go_at_call 28; refine (c2 _).mono ?_; rintro r wA ⟨rfl, b⟩; replace bel := seq_below bel b; clear b))
    go_ret
    exact ⟨rfl, bel.alloc bel.size _⟩

set_option maxHeartbeats 1000000 in
theorem lives_bad {W : Nat} (hW : W < 18446744073709551616) (h : okW W = false) (w : World) :
    Calls Tryz.prog 33 #[.int .u64 (W : Nat)] w fun r w' => r = .returned (.bool false) ∧ Below w.heap.size w w' := by
  have c2 := fun w => runpack_bad hW h w
  clear h
  have bel := Below.refl w.heap.size w
  go_enter Tryz.func33, Tryz.ntmps33
  go_wp2_with (first | (go_at_call 28; refine (c2 _).mono ?_; rintro r wA ⟨rfl, b⟩; replace bel := seq_below bel b; clear b))
  go_ret
  exact ⟨rfl, bel.alloc bel.size _⟩

set_option maxHeartbeats 2000000 in
theorem rmarked_as (W e : Nat) (k m : Int) (g : Bool) (a n s : Int) (right u : Bool) (he : e < 18446744073709551616)
    (c2 : ∀ w, Calls Tryz.prog 28 #[.int .u64 (W : Nat)] w fun r w' => r = .returned (.tuple #[.agg #[.int .i64 k, .int .i64 m, .bool g, .int .i64 a, .int .i64 n, .int .i64 s], .bool right]) ∧ Below w.heap.size w w')
    (c3 : ∀ w, Calls Tryz.prog 33 #[.int .u64 (W : Nat)] w fun r w' => r = .returned (.bool u) ∧ Below w.heap.size w w') (w : World) :
    Calls Tryz.prog 30 #[.int .u64 (W : Nat), .int .u64 (e : Nat)] w fun r w' => r = .returned (.bool (u && decide (m = ((blackN e : Nat) : Int)))) ∧ Below w.heap.size w w' := by
  have c4 := rblack_nat e he
  have bel := Below.refl w.heap.size w
  cases u
  · go_enter Tryz.func30, Tryz.ntmps30
    go_upto_region 2 with (first | (go_at_call 28; refine (c2 _).mono ?_; rintro r wA ⟨rfl, b⟩; replace bel := seq_below bel b; clear b))
    have hb1 := bel.alloc bel.size (Obj.cells #[Value.int IntKind.i64 k, Value.int IntKind.i64 m, Value.bool g, Value.int IntKind.i64 a, Value.int IntKind.i64 n, Value.int IntKind.i64 s] 57)
    generalize wA.alloc (Obj.cells #[Value.int IntKind.i64 k, Value.int IntKind.i64 m, Value.bool g, Value.int IntKind.i64 a, Value.int IntKind.i64 n, Value.int IntKind.i64 s] 57) = w1 at *
    have e1 : ∀ w', Below w1.heap.size w1 w' → Calls Tryz.prog 33 #[.int .u64 (W : Nat)] w' fun r w'' => r = .returned (.bool false) ∧ Below w1.heap.size w1 w'' := fun w' hw' => (c3 w').mono fun _ _ ⟨h1, h2⟩ => ⟨h1, hw'.trans (h2.mono hw'.size)⟩
    refine region_below (by kernel_rfl) (by kernel_rfl) ?_
    repeat (first | go_big_quiet_skip | (go_big_quiet_want; go_big_quiet_op; first | go_big_quiet_on | (refine ⟨_, fun _ _ => rfl, ?_⟩; go_big_quiet_on) | (refine ⟨_, e1, ?_⟩; go_big_quiet_on)))
    refine wpQuiet_nil ?_
    intro w8 hb8
    clear e1
    go_wp2
    go_ret
    exact ⟨rfl, hb1.trans (hb8.mono hb1.size)⟩
  · go_enter Tryz.func30, Tryz.ntmps30
    go_upto_region 2 with (first | (go_at_call 28; refine (c2 _).mono ?_; rintro r wA ⟨rfl, b⟩; replace bel := seq_below bel b; clear b))
    have hb1 := bel.alloc bel.size (Obj.cells #[Value.int IntKind.i64 k, Value.int IntKind.i64 m, Value.bool g, Value.int IntKind.i64 a, Value.int IntKind.i64 n, Value.int IntKind.i64 s] 57)
    have hh1 := hd_new wA k m g a n s
    generalize wA.alloc (Obj.cells #[Value.int IntKind.i64 k, Value.int IntKind.i64 m, Value.bool g, Value.int IntKind.i64 a, Value.int IntKind.i64 n, Value.int IntKind.i64 s] 57) = w1 at *
    have e1 : ∀ w', Below w1.heap.size w1 w' → Calls Tryz.prog 33 #[.int .u64 (W : Nat)] w' fun r w'' => r = .returned (.bool true) ∧ Below w1.heap.size w1 w'' := fun w' hw' => (c3 w').mono fun _ _ ⟨h1, h2⟩ => ⟨h1, hw'.trans (h2.mono hw'.size)⟩
    have e2 : ∀ w', Below w1.heap.size w1 w' → Calls Tryz.prog 41 #[.int .u64 (e : Nat)] w' fun r w'' => r = .returned (.int .i64 ((blackN e : Nat) : Int)) ∧ Below w1.heap.size w1 w'' := fun w' hw' => (c4 w').mono fun _ _ ⟨h1, h2⟩ => ⟨h1, h2 ▸ hw'⟩
    have e3 : ∀ w', Below w1.heap.size w1 w' → w'.cell? ⟨wA.heap.size, 1, none⟩ = some (.int .i64 m) := fun w' hw' => (hh1.below hw').cells.2.1
    refine region_below (by kernel_rfl) (by kernel_rfl) ?_
    repeat (first | go_big_quiet_skip | (go_big_quiet_want; go_big_quiet_op; first | go_big_quiet_on | (refine ⟨_, fun _ _ => rfl, ?_⟩; go_big_quiet_on) | (refine ⟨_, e1, ?_⟩; go_big_quiet_on) | (refine ⟨_, e2, ?_⟩; go_big_quiet_on) | (refine ⟨.int .i64 m, fun w' hw' => by simp [e3 w' hw', Result.andThen], ?_⟩; go_big_quiet_on)))
    refine wpQuiet_nil ?_
    intro w8 hb8
    clear e1 e2 e3
    go_wp2
    go_ret
    refine ⟨congrArg (fun z => Ending.returned (Value.bool z)) ?_, hb1.trans (hb8.mono hb1.size)⟩
    by_cases hm : m = ((blackN e : Nat) : Int) <;> simp [hm]

end Go.Proofs.YtcioomopgdhlmaaGreatDoor.Hh
/- The ways through HeadPacks and HeadMade. -/
namespace Go.Proofs.YtcioomopgdhlmaaGreatDoor.Hh
open Go.RowKit

theorem right_word {K M : Nat} {A N S : Nat} (h : Hr K M A N S) : rightH K M A N S = true := by
  have := h.k
  have := h.m
  have := h.a
  have := h.n
  have := h.s
  exact decide_eq_true (by omega)

theorem right_parts {k m a n s : Int} (h : rightH k m a n s = true) : ∃ K M A N S : Nat, Hr K M A N S ∧ k = (K : Int) ∧ m = (M : Int) ∧ a = (A : Int) ∧ n = (N : Int) ∧ s = (S : Int) := by
  have h' := of_decide_eq_true h
  exact ⟨k.toNat, m.toNat, a.toNat, n.toNat, s.toNat, ⟨by omega, by omega, by omega, by omega, by omega⟩, by omega, by omega, by omega, by omega, by omega⟩

end Go.Proofs.YtcioomopgdhlmaaGreatDoor.Hh
/- Contracts of head's Retired and Freed. -/
namespace Go.Proofs.YtcioomopgdhlmaaGreatDoor.Hh
open Go.RowKit

theorem WT.drewN {w : World} (h : WT w) (m : Nat) : WT (w.drewN m) := h

def stampN (e : Nat) : Nat := e % 65536
theorem stamp_get (e : Nat) : getN e 0 16 = stampN e := by simp [getN, stampN]

end Go.Proofs.YtcioomopgdhlmaaGreatDoor.Hh
/- The contract of head.Freed where the slot is free again. -/
namespace Go.Proofs.YtcioomopgdhlmaaGreatDoor.Hh
open Go.RowKit

end Go.Proofs.YtcioomopgdhlmaaGreatDoor.Hh
