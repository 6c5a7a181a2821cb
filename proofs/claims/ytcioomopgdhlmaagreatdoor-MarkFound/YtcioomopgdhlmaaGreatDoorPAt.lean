/- The contract of the reference's At: a word's place. -/
import Derived.Test.YtcioomopgdhlmaaGreatDoorPWords
namespace Go.Proofs.YtcioomopgdhlmaaGreatDoor
open Go.RowKit

/-- A word in a block of its own. -/
def IsWd (w : World) (B : Nat) (n : ByteArray) (x y : Int) : Prop := w.heap[B]? = some (.cells #[.string n, .int .i64 x, .int .i64 y] 69 (0, 0))
theorem IsWd.below {w w' : World} {B : Nat} {n : ByteArray} {x y : Int} (h : IsWd w B n x y) (b : Below w.heap.size w w') : IsWd w' B n x y := by
  show w'.heap[B]? = _
  rw [b.block B (lt_of_block h)]; exact h
theorem IsWd.cells {w : World} {B : Nat} {n : ByteArray} {x y : Int} (h : IsWd w B n x y) : w.cell? ⟨B, 0, none⟩ = some (.string n) ∧ w.cell? ⟨B, 1, none⟩ = some (.int .i64 x) ∧ w.cell? ⟨B, 2, none⟩ = some (.int .i64 y) := by
  have h' : w.heap[B]? = _ := h
  refine ⟨?_, ?_, ?_⟩ <;> simp [World.cell?, h']

/-- The word at a place is the one that is meant. -/
def mt (C D B : Nat) (n : ByteArray) (x y : Int) (p : Nat) : Prop := (nb (wat C D B p).1).toList = n.toList ∧ ((wat C D B p).2.1 : Int) = x ∧ ((wat C D B p).2.2 : Int) = y

theorem eq3_yes {P Q R : Prop} [Decidable P] [Decidable Q] [Decidable R] {α : Type} {x y : α} (h : P ∧ Q ∧ R) : (if P then if Q then if R then x else y else y else y) = x := by rw [if_pos h.1, if_pos h.2.1, if_pos h.2.2]
theorem eq3_no {P Q R : Prop} [Decidable P] [Decidable Q] [Decidable R] {α : Type} {x y : α} (h : ¬ (P ∧ Q ∧ R)) : (if P then if Q then if R then x else y else y else y) = y := by
  by_cases h1 : P
  · rw [if_pos h1]
    by_cases h2 : Q
    · rw [if_pos h2, if_neg (fun h3 => h ⟨h1, h2, h3⟩)]
    · rw [if_neg h2]
  · rw [if_neg h1]

set_option linter.unusedSimpArgs false in
set_option maxHeartbeats 4000000 in
theorem at_any (C D S B : Nat) (a g k : Int) (hr : rightB S a C D g k = true) (hB : bsI a = (B : Int)) (hB8 : B ≤ 8) (n : ByteArray) (x y : Int) (w : World) :
    Calls Tryz.prog 38 #[.agg (cs S a C D g k), .agg #[.string n, .int .i64 x, .int .i64 y]] w fun e w' => (∃ r : Int, e = .returned (.int .i64 r) ∧ ((∃ j, j < nW C D B S ∧ mt C D B n x y j ∧ r = (j : Int)) ∨ ((∀ j, j < nW C D B S → ¬ mt C D B n x y j) ∧ r = -1))) ∧ Below w.heap.size w w' := by
  have hR := rightB_iff.1 hr
  have c1 := rright_any S a C D g k
  rw [hr] at c1
  have c2 := words_r C D S B a g k (by omega) (by omega) (by omega) hB hB8
  have hN : nW C D B S ≤ 796 := by
    have h1 : C * D ≤ 128 := Nat.mul_le_mul (by omega : C ≤ 8) (by omega : D ≤ 16)
    have h2 : S * (2 + B) ≤ 640 := Nat.mul_le_mul (by omega : S ≤ 64) (by omega : 2 + B ≤ 10)
    unfold nW; omega
  clear hr hR
  have g1 : Tryz.prog.eqGuardType Tryz.prog.depth 32 = false := by kernel_rfl
  have g2 : Tryz.prog.stoodInHeld 32 = false := by kernel_rfl
  have bel := alloc_below w (.cells #[.int .i64 S, .int .i64 a, .int .i64 C, .int .i64 D, .int .i64 g, .int .i64 k] 23)
  have hh := cfg_new w S a C D g k
  go_enter Tryz.func38, Tryz.ntmps38
  go_upto_region 1 with fail
  have hz : (w.alloc (.cells #[.int .i64 S, .int .i64 a, .int .i64 C, .int .i64 D, .int .i64 g, .int .i64 k] 23)).heap.size = w.heap.size + 1 := by simp
  generalize w.alloc (.cells #[.int .i64 S, .int .i64 a, .int .i64 C, .int .i64 D, .int .i64 g, .int .i64 k] 23) = w1 at *
  have hwd : IsWd (w1.alloc (.cells #[.string n, .int .i64 x, .int .i64 y] 69)) w1.heap.size n x y := (MapKept.heap_alloc w1 _).1
  have b0 := alloc_below w1 (.cells #[.string n, .int .i64 x, .int .i64 y] 69)
  generalize w1.alloc (.cells #[.string n, .int .i64 x, .int .i64 y] 69) = w2 at *
  rw [hz] at hwd
  replace hh := hh.below b0
  replace bel := seq_below bel b0
  clear b0
  obtain ⟨l0, l1, l2, l3, l4, l5⟩ := hh.cells
  go_upto_region 4 with (first
    | (go_at_call 26; refine (c1 _).mono ?_; rintro e w3 ⟨rfl, b⟩; replace bel := seq_below bel b; replace hh := hh.below b; replace hwd := hwd.below b; obtain ⟨l0, l1, l2, l3, l4, l5⟩ := hh.cells)
    | (go_at_call 27; refine (c2 _).mono ?_; rintro e w4 ⟨R, cap, rfl, hL, _, b⟩; replace bel := seq_below bel b; replace hh := hh.below b; replace hwd := hwd.below b))
  generalize hNe : nW C D B S = N at *
  clear l0 l1 l2 l3 l4 l5 c1 c2 hh
  go_wp2
  go_loopw [6] (fun i wr => ∃ j : Nat, j ≤ N ∧ i = .int .i64 j ∧ Hid (∀ q, q < j → ¬ mt C D B n x y q) ∧ Below w4.heap.size w4 wr) (fun i _ => N - (intOf i).toNat)
  case atStart => exact ⟨0, Nat.zero_le _, rfl, fun q hq => absurd hq (Nat.not_lt_zero q), Below.refl _ _⟩
  case round =>
    obtain ⟨j, hj, rfl, hno, b⟩ := hrel
    replace bel := seq_below bel b
    replace hL := hL.below b
    replace hwd := hwd.below b
    by_cases hjl : j < N
    · have e1 : ∀ w', Below wr.heap.size wr w' → _ := fun w' hw' => (hL.below hw').at j hjl
      have e2 : ∀ w', Below wr.heap.size wr w' → _ := fun w' hw' => (hwd.below hw').cells
      go_upto_region 7 with fail
      refine region_below (by kernel_rfl) (by kernel_rfl) ?_
      repeat (first | go_big_quiet_skip | (go_big_quiet_want; go_big_quiet_op; first | go_big_quiet_on | (refine ⟨_, fun _ _ => rfl, ?_⟩; go_big_quiet_on) | (refine ⟨.agg #[.string n, .int .i64 x, .int .i64 y], ?_, ?_⟩; (focus (intro w' hw'; obtain ⟨l0, l1, l2⟩ := e2 w' hw'; simp [l0, l1, l2, Result.andThen]; done)); go_big_quiet_on) | (refine ⟨.agg #[.string (nb (wat C D B j).1), .int .i64 ((wat C D B j).2.1 : Nat), .int .i64 ((wat C D B j).2.2 : Nat)], ?_, ?_⟩; (focus (intro w' hw'; obtain ⟨l0, l1, l2⟩ := e1 w' hw'; simp [l0, l1, l2, Result.andThen]; done)); go_big_quiet_on)))
      go_big_quiet_want
      go_big_quiet_op
      by_cases hm : mt C D B n x y j
      · refine ⟨.bool true, fun w' _ => by rw [eq3_yes hm]; exact ⟨rfl, rfl⟩, ?_⟩
        go_big_quiet_on
        refine wpQuiet_nil ?_
        intro w8 hb8
        clear e1 e2
        go_wp2
        go_ret
        exact ⟨⟨j, rfl, .inl ⟨j, by omega, hm, rfl⟩⟩, seq_below bel hb8⟩
      · refine ⟨.bool false, fun w' _ => by rw [eq3_no hm]; exact ⟨rfl, rfl⟩, ?_⟩
        go_big_quiet_on
        refine wpQuiet_nil ?_
        intro w8 hb8
        clear e1 e2
        go_wp2
        go_roundw
        case rel =>
          refine ⟨j + 1, by omega, by go_num, fun q hq => ?_, seq_below b hb8⟩
          by_cases hqj : q < j
          · exact hno.out q hqj
          · obtain rfl : q = j := by omega
            exact hm
        case measure => simp [intOf]; omega
    · have hjN : j = N := by omega
      rw [hjN] at hno ⊢
      clear hjl hj hjN hL hwd
      go_wp2
      go_ret
      exact ⟨⟨-1, rfl, .inr ⟨fun j hj => hno.out j (by omega), rfl⟩⟩, bel⟩

theorem nb_inj {i j : Nat} (hi : i ≤ 10) (hj : j ≤ 10) (h : (nb i).toList = (nb j).toList) : i = j := by
  have key : ∀ a b : Fin 11, (nb a.1).toList = (nb b.1).toList → a = b := by decide +kernel
  have := key ⟨i, by omega⟩ ⟨j, by omega⟩ h
  exact Fin.mk.inj this

theorem wat_le (C D B p : Nat) : (wat C D B p).1 ≤ 10 := by
  rcases kind_range (C := C) (D := D) (B := B) (p := p) with h | h | h | h | h <;> omega

/-- Whose numbers a word of each kind has. -/
theorem wat_b {C D B S p : Nat} (hD : 1 ≤ D) (hp : p < nW C D B S) :
    ((wat C D B p).1 < 4 ∨ (((wat C D B p).1 = 4 ∨ (wat C D B p).1 = 6 ∨ (wat C D B p).1 = 7) ∧ (wat C D B p).2.1 < C ∧ (wat C D B p).2.2 = 0) ∨ ((wat C D B p).1 = 5 ∧ (wat C D B p).2.1 < C ∧ (wat C D B p).2.2 < D) ∨ (((wat C D B p).1 = 8 ∨ (wat C D B p).1 = 9) ∧ (wat C D B p).2.1 < S ∧ (wat C D B p).2.2 = 0) ∨ ((wat C D B p).1 = 10 ∧ (wat C D B p).2.1 < S ∧ (wat C D B p).2.2 < B)) := by
  by_cases h0 : p < 4
  · left; rw [wat_0 C D B p h0]; exact h0
  right
  by_cases h1 : p < 4 + C
  · left; rw [wat_1 C D B p (by omega) h1]; exact ⟨.inl rfl, by show p - 4 < C; omega, rfl⟩
  by_cases h2 : p < 4 + C + C * D
  · right; left; rw [wat_2 C D B p (by omega) h2]
    exact ⟨rfl, Nat.div_lt_of_lt_mul (by rw [Nat.mul_comm]; omega), Nat.mod_lt _ hD⟩
  by_cases h3 : p < 4 + C + C * D + 2 * C
  · left; rw [wat_3 C D B p (by omega) h3]
    refine ⟨?_, ?_, rfl⟩
    · show 6 + _ = 4 ∨ 6 + _ = 6 ∨ 6 + _ = 7; omega
    · show (p - (4 + C + C * D)) / 2 < C; omega
  right; right
  rw [wat_4 C D B p (by omega)]
  have hq : (p - (4 + C + C * D + 2 * C)) / (2 + B) < S := Nat.div_lt_of_lt_mul (by unfold nW at hp; rw [Nat.mul_comm (2 + B) S]; omega)
  have hr := Nat.mod_lt (p - (4 + C + C * D + 2 * C)) (show 0 < 2 + B by omega)
  generalize (p - (4 + C + C * D + 2 * C)) % (2 + B) = r at *
  by_cases r0 : r = 0
  · left; subst r0; exact ⟨.inl rfl, hq, rfl⟩
  by_cases r1 : r = 1
  · left; subst r1; exact ⟨.inr rfl, hq, rfl⟩
  right
  rw [if_neg r0, if_neg r1]
  exact ⟨rfl, hq, by show r - 2 < B; omega⟩

theorem at_yes {C D S B : Nat} {a g k : Int} (hr : rightB S a C D g k = true) (hB : bsI a = (B : Int)) (hB8 : B ≤ 8) (K X Y P : Nat) (hK : K ≤ 10) (hP : P < nW C D B S) (hw : wat C D B P = (K, X, Y)) (w : World) :
    Calls Tryz.prog 38 #[.agg (cs S a C D g k), .agg #[.string (nb K), .int .i64 (X : Nat), .int .i64 (Y : Nat)]] w fun e w' => e = .returned (.int .i64 (P : Nat)) ∧ Below w.heap.size w w' := by
  refine (at_any C D S B a g k hr hB hB8 (nb K) X Y w).mono fun e w' ⟨⟨r, he, h⟩, hb⟩ => ⟨?_, hb⟩
  rw [he]
  rcases h with ⟨j, hj, ⟨m1, m2, m3⟩, rfl⟩ | ⟨hno, _⟩
  · have e1 := nb_inj (wat_le C D B j) hK m1
    have e2 : wat C D B j = (K, X, Y) := Prod.ext e1 (Prod.ext (by show (wat C D B j).2.1 = X; omega) (by show (wat C D B j).2.2 = Y; omega))
    rw [wat_inv e2, wat_inv hw]
  · exact absurd ⟨by rw [hw], by rw [hw], by rw [hw]⟩ (hno P hP)

theorem at_no {C D S B : Nat} {a g k : Int} (hr : rightB S a C D g k = true) (hB : bsI a = (B : Int)) (hB8 : B ≤ 8) (K : Nat) (X Y : Int) (hK : K ≤ 10) (h0 : ∀ p, p < nW C D B S → (wat C D B p).1 = K → ((wat C D B p).2.1 : Int) = X → ((wat C D B p).2.2 : Int) = Y → False) (w : World) :
    Calls Tryz.prog 38 #[.agg (cs S a C D g k), .agg #[.string (nb K), .int .i64 X, .int .i64 Y]] w fun e w' => e = .returned (.int .i64 (-1)) ∧ Below w.heap.size w w' := by
  refine (at_any C D S B a g k hr hB hB8 (nb K) X Y w).mono fun e w' ⟨⟨r, he, h⟩, hb⟩ => ⟨?_, hb⟩
  rw [he]
  rcases h with ⟨j, hj, ⟨m1, m2, m3⟩, rfl⟩ | ⟨_, rfl⟩
  · exact absurd (h0 j hj (nb_inj (wat_le C D B j) hK m1) m2 m3) id
  · rfl

set_option maxHeartbeats 1000000 in
theorem at_wrong {s a c d g k : Int} (hr : rightB s a c d g k = false) (v : Array Value) (n : ByteArray) (x y : Int) (hv : v = #[.string n, .int .i64 x, .int .i64 y]) (w : World) :
    Calls Tryz.prog 38 #[.agg (cs s a c d g k), .agg v] w fun e w' => e = .returned (.int .i64 (-1)) ∧ Below w.heap.size w w' := by
  subst hv
  have c1 := rright_any s a c d g k
  rw [hr] at c1
  have bel := alloc_below w (.cells #[.int .i64 s, .int .i64 a, .int .i64 c, .int .i64 d, .int .i64 g, .int .i64 k] 23)
  have hh := cfg_new w s a c d g k
  go_enter Tryz.func38, Tryz.ntmps38
  go_upto_region 1 with fail
  generalize w.alloc (.cells #[.int .i64 s, .int .i64 a, .int .i64 c, .int .i64 d, .int .i64 g, .int .i64 k] 23) = w1 at *
  have b0 := alloc_below w1 (.cells #[.string n, .int .i64 x, .int .i64 y] 69)
  generalize w1.alloc (.cells #[.string n, .int .i64 x, .int .i64 y] 69) = w2 at *
  replace hh := hh.below b0
  replace bel := seq_below bel b0
  obtain ⟨l0, l1, l2, l3, l4, l5⟩ := hh.cells
  go_wp2_with (go_at_call 26; refine (c1 _).mono ?_; rintro e w3 ⟨rfl, b⟩; replace bel := seq_below bel b)
  go_ret
  exact ⟨rfl, bel⟩
end Go.Proofs.YtcioomopgdhlmaaGreatDoor
