/- Contracts of the law's own 'does' and 'awake'. -/
import Derived.Test.YteeocnknocoefabMake
namespace Go.Proofs.Yteeocnknocoefab
open Go.RowKit

/-- What an act makes of a memory, and what it answers. -/
def actS (s : MS) (kd a : Int) (A B : Nat) : MS × Nat × Bool :=
  if inR s a = true then
    if kd = 0 then (touched s 1 a.toNat (s.X.getD a.toNat 0), s.X.getD a.toNat 0, false)
    else if kd = 1 then (touched s 2 a.toNat A, 0, true)
    else if kd = 2 then
      if s.X.getD a.toNat 0 = A then (touched s 3 a.toNat B, 0, true) else (touched s 3 a.toNat (s.X.getD a.toNat 0), 0, false)
    else (touched s 4 a.toNat (sumW (s.X.getD a.toNat 0) A), sumW (s.X.getD a.toNat 0) A, false)
  else (s, 0, false)

def actV (kd a : Int) (A B : Nat) : Value := .agg #[.int .i64 kd, .int .i64 a, .int .u64 A, .int .u64 B]

theorem only_alloc (M G : Nat) (w : World) (o : Obj) : Only M G w (w.alloc o) := .of_below ((Below.refl _ _).alloc (Nat.le_refl _) o)

set_option maxHeartbeats 1000000 in
theorem does_any {M G : Nat} {s : MS} {w : World} (h : IsMem w M G s) (kd a : Int) (A B : Nat) (hA : A < 18446744073709551616) (hB : B < 18446744073709551616) (ht : 0 ≤ s.t ∧ s.t < 4611686018427387904) :
    Calls Try.prog 10 #[.pointer (some ⟨M, 0, none⟩), actV kd a A B] w fun e w' =>
      e = .returned (.tuple #[.int .u64 ((actS s kd a A B).2.1 : Nat), .bool (actS s kd a A B).2.2]) ∧ IsMem w' M G (actS s kd a A B).1 ∧ Only M G w w' := by
  have hm : ∀ o, IsMem (w.alloc o) M G s := fun o => h.below ((Below.refl _ _).alloc (Nat.le_refl _) o)
  have ho : ∀ o, Only M G w (w.alloc o) := only_alloc M G w
  clear h
  unfold actV
  cases hr : inR s a with
  | false =>
    have cl := fun o => load_out (hm o) a hr
    have cs := fun o => store_out (hm o) a A hr
    have cw := fun o => swap_out (hm o) a A B hr
    have ca := fun o => add_out (hm o) a A hr
    have e : actS s kd a A B = (s, 0, false) := by simp [actS, hr]
    rw [e]
    clear e hr
    by_cases k0 : kd = 0
    · subst k0
      go_enter Try.func10, Try.ntmps10
      go_wp2_with (go_at_call 19; refine (cl _).mono ?_; rintro e w' ⟨rfl, rfl⟩)
      go_ret2
      exact ⟨rfl, hm _, ho _⟩
    · by_cases k1 : kd = 1
      · subst k1
        go_enter Try.func10, Try.ntmps10
        go_wp2_with (go_at_call 21; refine (cs _).mono ?_; rintro e w' ⟨rfl, rfl⟩)
        go_ret2
        exact ⟨rfl, hm _, ho _⟩
      · by_cases k2 : kd = 2
        · subst k2
          go_enter Try.func10, Try.ntmps10
          go_wp2_with (go_at_call 18; refine (cw _).mono ?_; rintro e w' ⟨rfl, rfl⟩)
          go_ret2
          exact ⟨rfl, hm _, ho _⟩
        · have b0 : (kd == 0) = false := by simpa using k0
          have b1 : (kd == 1) = false := by simpa using k1
          have b2 : (kd == 2) = false := by simpa using k2
          clear k0 k1 k2
          go_enter Try.func10, Try.ntmps10
          go_wp2_with (go_at_call 17; refine (ca _).mono ?_; rintro e w' ⟨rfl, rfl⟩)
          go_ret2
          exact ⟨rfl, hm _, ho _⟩
  | true =>
    have hr' := (inR_iff s a).1 hr
    obtain ⟨i, rfl⟩ : ∃ i : Nat, a = (i : Int) := ⟨a.toNat, by omega⟩
    have hi : i < s.X.length := by omega
    have cl := fun o => load_in (hm o) i hi ht
    have cs := fun o => store_in (hm o) i A hi hA ht
    have cw := fun o (h : s.X.getD i 0 = A) => swap_yes (hm o) i A B hi hB h ht
    have cn := fun o (h : s.X.getD i 0 ≠ A) => swap_no (hm o) i A B hi h ht
    have ca := fun o => add_in (hm o) i A hi ht
    clear hm hr'
    by_cases k0 : kd = 0
    · subst k0
      have e : actS s 0 i A B = (touched s 1 i (s.X.getD i 0), s.X.getD i 0, false) := by simp [actS, hr]
      rw [e]
      clear e hr hi ht
      go_enter Try.func10, Try.ntmps10
      go_wp2_with (go_at_call 19; refine (cl _).mono ?_; rintro e w' ⟨rfl, h2, h3⟩)
      go_ret2
      exact ⟨rfl, h2, (ho _).trans h3⟩
    · by_cases k1 : kd = 1
      · subst k1
        have e : actS s 1 i A B = (touched s 2 i A, 0, true) := by simp [actS, hr]
        rw [e]
        clear e hr hi ht
        go_enter Try.func10, Try.ntmps10
        go_wp2_with (go_at_call 21; refine (cs _).mono ?_; rintro e w' ⟨rfl, h2, h3⟩)
        go_ret2
        exact ⟨rfl, h2, (ho _).trans h3⟩
      · by_cases k2 : kd = 2
        · subst k2
          by_cases hx : s.X.getD i 0 = A
          · have e : actS s 2 i A B = (touched s 3 i B, 0, true) := by simp only [actS, hr, Int.toNat_natCast, hx]; simp
            have c := fun o => cw o hx
            rw [e]
            clear e hr hi ht cw cn hx
            go_enter Try.func10, Try.ntmps10
            go_wp2_with (go_at_call 18; refine (c _).mono ?_; rintro e w' ⟨rfl, h2, h3⟩)
            go_ret2
            exact ⟨rfl, h2, (ho _).trans h3⟩
          · have e : actS s 2 i A B = (touched s 3 i (s.X.getD i 0), 0, false) := by simp only [actS, hr, Int.toNat_natCast, hx]; simp
            have c := fun o => cn o hx
            rw [e]
            clear e hr hi ht cw cn hx
            go_enter Try.func10, Try.ntmps10
            go_wp2_with (go_at_call 18; refine (c _).mono ?_; rintro e w' ⟨rfl, h2, h3⟩)
            go_ret2
            exact ⟨rfl, h2, (ho _).trans h3⟩
        · have e : actS s kd i A B = (touched s 4 i (sumW (s.X.getD i 0) A), sumW (s.X.getD i 0) A, false) := by simp [actS, hr, k0, k1, k2]
          rw [e]
          have b0 : (kd == 0) = false := by simpa using k0
          have b1 : (kd == 1) = false := by simpa using k1
          have b2 : (kd == 2) = false := by simpa using k2
          clear k0 k1 k2 e hr hi ht
          go_enter Try.func10, Try.ntmps10
          go_wp2_with (go_at_call 17; refine (ca _).mono ?_; rintro e w' ⟨rfl, h2, h3⟩)
          go_ret2
          exact ⟨rfl, h2, (ho _).trans h3⟩

set_option maxHeartbeats 1000000 in
theorem does_nil (kd a : Int) (A B : Nat) (w : World) :
    Calls Try.prog 10 #[.pointer none, actV kd a A B] w fun e w' => e = .returned (.tuple #[.int .u64 0, .bool false]) ∧ Below w.heap.size w w' := by
  have hb : ∀ o, Below w.heap.size w (w.alloc o) := fun o => (Below.refl _ _).alloc (Nat.le_refl _) o
  unfold actV
  by_cases k0 : kd = 0
  · subst k0
    go_enter Try.func10, Try.ntmps10
    go_wp2_with (go_at_call 19; refine (load_nil a _).mono ?_; rintro e w' ⟨rfl, rfl⟩)
    go_ret2
    exact ⟨rfl, hb _⟩
  · by_cases k1 : kd = 1
    · subst k1
      go_enter Try.func10, Try.ntmps10
      go_wp2_with (go_at_call 21; refine (store_nil a A _).mono ?_; rintro e w' ⟨rfl, rfl⟩)
      go_ret2
      exact ⟨rfl, hb _⟩
    · by_cases k2 : kd = 2
      · subst k2
        go_enter Try.func10, Try.ntmps10
        go_wp2_with (go_at_call 18; refine (swap_nil a A B _).mono ?_; rintro e w' ⟨rfl, rfl⟩)
        go_ret2
        exact ⟨rfl, hb _⟩
      · have b0 : (kd == 0) = false := by simpa using k0
        have b1 : (kd == 1) = false := by simpa using k1
        have b2 : (kd == 2) = false := by simpa using k2
        clear k0 k1 k2
        go_enter Try.func10, Try.ntmps10
        go_wp2_with (go_at_call 17; refine (add_nil a A _).mono ?_; rintro e w' ⟨rfl, rfl⟩)
        go_ret2
        exact ⟨rfl, hb _⟩

def e0 : MS := ⟨[0, 0], 0, 0, 0, 0, 0⟩
def e1 : MS := ⟨[0, 5], 1, 4, 1, 0, 5⟩
def e2 : MS := ⟨[0, 7], 2, 3, 1, 5, 7⟩
def e3 : MS := ⟨[0, 7], 3, 3, 1, 7, 7⟩

section
variable {M G : Nat} {w : World}
theorem ex_add (h : IsMem w M G e0) : Calls Try.prog 17 #[.pointer (some ⟨M, 0, none⟩), .int .i64 1, .int .u64 5] w fun e w' => e = .returned (.int .u64 5) ∧ IsMem w' M G e1 ∧ Only M G w w' :=
  add_in h 1 5 (by decide) (by decide)
theorem ex_swap1 (h : IsMem w M G e1) : Calls Try.prog 18 #[.pointer (some ⟨M, 0, none⟩), .int .i64 1, .int .u64 5, .int .u64 7] w fun e w' => e = .returned (.bool true) ∧ IsMem w' M G e2 ∧ Only M G w w' :=
  swap_yes h 1 5 7 (by decide) (by decide) rfl (by decide)
theorem ex_swap2 (h : IsMem w M G e2) : Calls Try.prog 18 #[.pointer (some ⟨M, 0, none⟩), .int .i64 1, .int .u64 5, .int .u64 9] w fun e w' => e = .returned (.bool false) ∧ IsMem w' M G e3 ∧ Only M G w w' :=
  swap_no h 1 5 9 (by decide) (by decide) (by decide)
theorem ex_touches (h : IsMem w M G e3) : Calls Try.prog 11 #[.pointer (some ⟨M, 0, none⟩)] w fun e w' => e = .returned (.int .i64 3) ∧ w = w' := touches_any h
theorem ex_last (h : IsMem w M G e3) : Calls Try.prog 12 #[.pointer (some ⟨M, 0, none⟩)] w fun e w' => e = .returned (.agg #[.int .i64 3, .int .i64 1, .int .u64 7, .int .u64 7]) ∧ IsMem w' M G e3 ∧ Below w.heap.size w w' :=
  (last_any h).mono fun _ _ ⟨h1, h2⟩ => ⟨h1, h.below h2, h2⟩
theorem ex_size (h : IsMem w M G e3) : Calls Try.prog 15 #[.pointer (some ⟨M, 0, none⟩)] w fun e w' => e = .returned (.int .i64 2) ∧ w = w' := size_any h
end

set_option maxHeartbeats 1000000 in
theorem awake_any (w : World) : Calls Try.prog 8 #[] w fun e w' => e = .returned (.bool true) ∧ Below w.heap.size w w' := by
  go_enter Try.func8, Try.ntmps8
  go_wp2_with (go_at_call 9; refine (new_any 2 (by omega) _).mono ?_; rintro e w1 ⟨M, G, rfl, hm, hM, hG, hb⟩)
  have h0 : IsMem w1 M G e0 := hm
  clear hm
  go_wp2_with (first
    | (go_at_call 17; refine (ex_add h0).mono ?_; rintro e w2 ⟨rfl, h1, o1⟩)
    | (go_at_call_of 18 (Value.int .u64 7); refine (ex_swap1 h1).mono ?_; rintro e w3 ⟨rfl, h2, o2⟩)
    | (go_at_call_of 18 (Value.int .u64 9); refine (ex_swap2 h2).mono ?_; rintro e w4 ⟨rfl, h3, o3⟩)
    | (go_at_call 11; refine (ex_touches h3).mono ?_; rintro e w5 ⟨rfl, rfl⟩)
    | (go_at_call 12; refine (ex_last h3).mono ?_; rintro e w6 ⟨rfl, h4, b4⟩)
    | (go_at_call 15; refine (ex_size h4).mono ?_; rintro e w7 ⟨rfl, rfl⟩))
  go_ret
  have ho : Only M G w1 w4 := (o1.trans o2).trans o3
  have b1 : Below w.heap.size w w4 := ho.below hb hM hG (Nat.le_refl _)
  exact ⟨rfl, b1.trans (b4.mono b1.size)⟩
end Go.Proofs.Yteeocnknocoefab
