/- Contracts of package epoch: within, the three New.., and the steps of a Pin and of a Leave. -/
import Derived.Test.YtpfcpkkillklkaaEHeap
namespace Go.Proofs.Ytpfcpkkillklkaa
open Go.RowKit
open Mm (IsMem MS touched Only)

theorem ewithin_any (e : Nat) (he : e < 4611686018427387904) (w : World) : Calls Try.prog 34 #[.int .u64 (e : Nat)] w fun r w' => r = .returned (.int .u64 ((2 * e + 1 : Nat) : Int)) ∧ w = w' := by
  rw [show ((2 * e + 1 : Nat) : Int) = 2 * (e : Int) + 1 by omega]
  have h : 0 ≤ (e : Int) ∧ (e : Int) < 4611686018427387904 := by omega
  generalize (e : Int) = x at *
  go_enter Try.func34, Try.ntmps34
  go_wp2
  go_ret
  exact ⟨rfl, rfl⟩

/-- Where a client's pin stands. -/
theorem pin_any {K : Cf} (hK : K.Ok) (i : Nat) (hi : i < K.C) (w : World) :
    Calls Try.prog 22 #[.agg K.cs, .int .i64 (i : Nat)] w fun e w' => e = .returned (.int .i64 ((4 + i : Nat) : Int)) ∧ Below w.heap.size w w' := by
  have h := pin_yes (s := K.S) (a := K.a) (c := K.C) (d := K.D) (g := K.g) (k := K.k) i hK.r (be_iff.2 (by omega)) w
  rw [show (4 : Int) + (i : Nat) = ((4 + i : Nat) : Int) by omega] at h
  exact h

set_option maxHeartbeats 400000 in
theorem newPin_no {s a c d g k : Int} (i : Int) (hr : (rightB s a c d g k && be i c) = false) (w : World) :
    Calls Try.prog 16 #[.agg (cs s a c d g k), .int .i64 i] w fun e w' => e = .returned (.pointer none) ∧ Below w.heap.size w w' := by
  have bel := alloc_below w (.cells #[.int .i64 s, .int .i64 a, .int .i64 c, .int .i64 d, .int .i64 g, .int .i64 k] 23)
  have c1 := pin_no i hr
  clear hr
  go_enter Try.func16, Try.ntmps16
  go_wp2_with (go_at_call 22; refine (c1 _).mono ?_; rintro e w1 ⟨rfl, b⟩; replace bel := seq_below bel b)
  go_ret
  exact ⟨rfl, bel⟩

set_option maxHeartbeats 400000 in
theorem newLeave_no {s a c d g k : Int} (i : Int) (hr : (rightB s a c d g k && be i c) = false) (w : World) :
    Calls Try.prog 18 #[.agg (cs s a c d g k), .int .i64 i] w fun e w' => e = .returned (.pointer none) ∧ Below w.heap.size w w' := by
  have bel := alloc_below w (.cells #[.int .i64 s, .int .i64 a, .int .i64 c, .int .i64 d, .int .i64 g, .int .i64 k] 23)
  have c1 := pin_no i hr
  clear hr
  go_enter Try.func18, Try.ntmps18
  go_wp2_with (go_at_call 22; refine (c1 _).mono ?_; rintro e w1 ⟨rfl, b⟩; replace bel := seq_below bel b)
  go_ret
  exact ⟨rfl, bel⟩

set_option maxHeartbeats 400000 in
theorem newAdv_no {s a c d g k : Int} (hr : rightB s a c d g k = false) (w : World) :
    Calls Try.prog 11 #[.agg (cs s a c d g k)] w fun e w' => e = .returned (.pointer none) ∧ Below w.heap.size w w' := by
  have bel := alloc_below w (.cells #[.int .i64 s, .int .i64 a, .int .i64 c, .int .i64 d, .int .i64 g, .int .i64 k] 23)
  have c1 := right_any s a c d g k
  rw [hr] at c1
  clear hr
  go_enter Try.func11, Try.ntmps11
  go_wp2_with (go_at_call 25; refine (c1 _).mono ?_; rintro e w1 ⟨rfl, b⟩; replace bel := seq_below bel b)
  go_ret
  exact ⟨rfl, bel⟩

set_option maxHeartbeats 400000 in
theorem newAdv_yes {s a c d g k : Int} (hr : rightB s a c d g k = true) (w : World) :
    Calls Try.prog 11 #[.agg (cs s a c d g k)] w fun e w' => ∃ P, e = .returned (.pointer (some ⟨P, 0, none⟩)) ∧ IsAdv w' P 0 s a c d g k 0 0 0 ∧ w.heap.size ≤ P ∧ Below w.heap.size w w' := by
  have bel := alloc_below w (.cells #[.int .i64 s, .int .i64 a, .int .i64 c, .int .i64 d, .int .i64 g, .int .i64 k] 23)
  have hh := cfg_new w s a c d g k
  have c1 := right_any s a c d g k
  rw [hr] at c1
  clear hr
  go_enter Try.func11, Try.ntmps11
  go_wp2_with (go_at_call 25; refine (c1 _).mono ?_; rintro e w1 ⟨rfl, b⟩; replace bel := seq_below bel b; replace hh := hh.below b; obtain ⟨l0, l1, l2, l3, l4, l5⟩ := hh.cells)
  go_ret
  exact ⟨_, rfl, new_obj _ _, bel.size, bel.alloc bel.size _⟩

set_option maxHeartbeats 400000 in
theorem newPin_yes {K : Cf} (hK : K.Ok) (i : Nat) (hi : i < K.C) (w : World) :
    Calls Try.prog 16 #[.agg K.cs, .int .i64 (i : Nat)] w fun e w' => ∃ P, e = .returned (.pointer (some ⟨P, 0, none⟩)) ∧ IsPin w' P 0 ((4 + i : Nat) : Int) 0 0 ∧ w.heap.size ≤ P ∧ Below w.heap.size w w' := by
  have c1 := pin_any hK i hi
  unfold Cf.cs at *
  have hl : (0 : Int) ≤ ((4 + i : Nat) : Int) := by omega
  generalize ((4 + i : Nat) : Int) = L at *
  generalize (K.S : Int) = s at *
  generalize K.a = a at *
  generalize (K.C : Int) = c at *
  generalize (K.D : Int) = d at *
  generalize K.g = g at *
  generalize K.k = k at *
  generalize (i : Int) = j at *
  clear hK hi
  have bel := alloc_below w (.cells #[.int .i64 s, .int .i64 a, .int .i64 c, .int .i64 d, .int .i64 g, .int .i64 k] 23)
  go_enter Try.func16, Try.ntmps16
  go_wp2_with (go_at_call 22; refine (c1 _).mono ?_; rintro e w1 ⟨rfl, b⟩; replace bel := seq_below bel b)
  go_ret
  exact ⟨_, rfl, new_obj _ _, bel.size, bel.alloc bel.size _⟩

set_option maxHeartbeats 400000 in
theorem newLeave_yes {K : Cf} (hK : K.Ok) (i : Nat) (hi : i < K.C) (w : World) :
    Calls Try.prog 18 #[.agg K.cs, .int .i64 (i : Nat)] w fun e w' => ∃ P, e = .returned (.pointer (some ⟨P, 0, none⟩)) ∧ IsLeave w' P ((4 + i : Nat) : Int) 0 ∧ w.heap.size ≤ P ∧ Below w.heap.size w w' := by
  have c1 := pin_any hK i hi
  unfold Cf.cs at *
  have hl : (0 : Int) ≤ ((4 + i : Nat) : Int) := by omega
  generalize ((4 + i : Nat) : Int) = L at *
  generalize (K.S : Int) = s at *
  generalize K.a = a at *
  generalize (K.C : Int) = c at *
  generalize (K.D : Int) = d at *
  generalize K.g = g at *
  generalize K.k = k at *
  generalize (i : Int) = j at *
  clear hK hi
  have bel := alloc_below w (.cells #[.int .i64 s, .int .i64 a, .int .i64 c, .int .i64 d, .int .i64 g, .int .i64 k] 23)
  go_enter Try.func18, Try.ntmps18
  go_wp2_with (go_at_call 22; refine (c1 _).mono ?_; rintro e w1 ⟨rfl, b⟩; replace bel := seq_below bel b)
  go_ret
  exact ⟨_, rfl, new_obj _ _, bel.size, bel.alloc bel.size _⟩

theorem pin_nil (v : Value) (w : World) : Calls Try.prog 17 #[.pointer none, v] w fun e w' => e = .returned (.bool true) ∧ w = w' := by
  go_enter Try.func17, Try.ntmps17
  go_wp2
  go_ret
  exact ⟨rfl, rfl⟩
theorem leave_nil (v : Value) (w : World) : Calls Try.prog 19 #[.pointer none, v] w fun e w' => e = .returned (.bool true) ∧ w = w' := by
  go_enter Try.func19, Try.ntmps19
  go_wp2
  go_ret
  exact ⟨rfl, rfl⟩
theorem adv_nil (v : Value) (w : World) : Calls Try.prog 14 #[.pointer none, v] w fun e w' => e = .returned (.bool true) ∧ w = w' := by
  go_enter Try.func14, Try.ntmps14
  go_wp2
  go_ret
  exact ⟨rfl, rfl⟩

/-! A Leave's steps. -/
set_option maxHeartbeats 1000000 in
theorem leave_0 {M G P : Nat} {m : MS} {w : World} {L : Nat} (hm : IsMem w M G m) (hp : IsLeave w P (L : Nat) 0) (h1 : P ≠ M) (h2 : P ≠ G) (hX : L < m.X.length) (ht : 0 ≤ m.t ∧ m.t < 4611686018427387904) :
    Calls Try.prog 19 #[.pointer (some ⟨P, 0, none⟩), .pointer (some ⟨M, 0, none⟩)] w fun e w' => e = .returned (.bool true) ∧ IsMem w' M G (touched m 2 L 0) ∧ IsLeave w' P (L : Nat) 1 ∧ Chg [P, M, G] w w' := by
  have c0 := Mm.store_in hm L 0 hX (by omega) ht
  rw [show ((0 : Nat) : Int) = 0 from rfl] at c0
  generalize touched m 2 L 0 = m' at *
  clear hm hX ht
  obtain ⟨l0, l1⟩ := hp.cells
  go_enter Try.func19, Try.ntmps19
  go_wp2_with (go_at_call 33; refine c0.mono ?_; rintro e w1 ⟨rfl, hm1, o1⟩; replace hp := hp.only o1 h1 h2; clear l0 l1; obtain ⟨l0, l1⟩ := hp.cells; have fz := hp.free)
  go_ret
  exact ⟨rfl, mem_set hm1 h1 h2 _, hp.set1 1, (Chg.of_only o1 (by simp) (by simp) : Chg [P, M, G] w w1).setCell (by simp) _⟩

theorem leave_1 {M P : Nat} {w : World} {L : Int} (hp : IsLeave w P L 1) :
    Calls Try.prog 19 #[.pointer (some ⟨P, 0, none⟩), .pointer (some ⟨M, 0, none⟩)] w fun e w' => e = .returned (.bool true) ∧ w = w' := by
  obtain ⟨l0, l1⟩ := hp.cells
  go_enter Try.func19, Try.ntmps19
  go_wp2
  go_ret
  exact ⟨rfl, rfl⟩

/-! A Pin's steps. -/
set_option maxHeartbeats 1000000 in
theorem pin_0 {M G P : Nat} {m : MS} {w : World} {E e v : Nat} {L : Int} (hm : IsMem w M G m) (hp : IsPin w P E L 0 e) (h1 : P ≠ M) (h2 : P ≠ G) (hX : 1 < m.X.length) (ht : 0 ≤ m.t ∧ m.t < 4611686018427387904) (hv : m.X.getD 1 0 = v) :
    Calls Try.prog 17 #[.pointer (some ⟨P, 0, none⟩), .pointer (some ⟨M, 0, none⟩)] w fun r w' => r = .returned (.bool false) ∧ IsMem w' M G (touched m 1 1 v) ∧ IsPin w' P E L 1 v ∧ Chg [P, M, G] w w' := by
  have c0 := Mm.load_in hm 1 hX ht
  rw [hv] at c0
  generalize touched m 1 1 v = m' at *
  clear hm hX ht hv
  obtain ⟨l0, l1, l2, l3⟩ := hp.cells
  go_enter Try.func17, Try.ntmps17
  go_wp2_with (go_at_call 21; refine c0.mono ?_; rintro e w1 ⟨rfl, hm1, o1⟩; replace hp := hp.only o1 h1 h2; clear l0 l1 l2 l3; obtain ⟨l0, l1, l2, l3⟩ := hp.cells; have fz := hp.free)
  go_ret
  exact ⟨rfl, mem_set (mem_set hm1 h1 h2 _) h1 h2 _, (hp.set3 v).set2 1, ((Chg.of_only o1 (by simp) (by simp) : Chg [P, M, G] w w1).setCell (by simp) _).setCell (by simp) _⟩

set_option maxHeartbeats 1000000 in
theorem pin_1 {M G P : Nat} {m : MS} {w : World} {E e L : Nat} (hm : IsMem w M G m) (hp : IsPin w P E (L : Nat) 1 e) (h1 : P ≠ M) (h2 : P ≠ G) (hX : L < m.X.length) (ht : 0 ≤ m.t ∧ m.t < 4611686018427387904) (he : e < 4611686018427387904) :
    Calls Try.prog 17 #[.pointer (some ⟨P, 0, none⟩), .pointer (some ⟨M, 0, none⟩)] w fun r w' => r = .returned (.bool false) ∧ IsMem w' M G (touched m 2 L (2 * e + 1)) ∧ IsPin w' P E (L : Nat) 2 e ∧ Chg [P, M, G] w w' := by
  have c1 := ewithin_any e he
  have c0 : ∀ w, IsMem w M G m → Calls Try.prog 33 #[.pointer (some ⟨M, 0, none⟩), .int .i64 (L : Nat), .int .u64 ((2 * e + 1 : Nat) : Int)] w fun e' w' => e' = .returned (.bool true) ∧ IsMem w' M G (touched m 2 L (2 * e + 1)) ∧ Only M G w w' := fun w h => Mm.store_in h L (2 * e + 1) hX (by omega) ht
  generalize touched m 2 L (2 * e + 1) = m' at *
  have ch := Chg.refl [P, M, G] w
  clear hX ht he
  generalize ((2 * e + 1 : Nat) : Int) = y at *
  obtain ⟨l0, l1, l2, l3⟩ := hp.cells
  go_enter Try.func17, Try.ntmps17
  go_upto_region 8 with fail
  replace hp := hp.below (Below.refl w.heap.size w).drew
  replace hm := hm.below (Below.refl w.heap.size w).drew
  replace ch := ch.then_below (Below.refl w.heap.size w).drew
  go_region_held (fun w' => w'.cell? ⟨P, 0, none⟩ = some (.int .u64 (E : Nat)) ∧ w'.cell? ⟨P, 1, none⟩ = some (.int .i64 (L : Nat)) ∧ w'.cell? ⟨P, 2, none⟩ = some (.int .i64 1) ∧ w'.cell? ⟨P, 3, none⟩ = some (.int .u64 (e : Nat))) (first | (with_reducible exact hp.cells)) (first
    | (go_at_call 34; with_reducible refine (c1 _).mono ?_; rintro r w3 ⟨rfl, rfl⟩)
    | (go_at_call 33; with_reducible refine (c0 _ hm).mono ?_; rintro r w3 ⟨rfl, hm1, o1⟩; replace hp := hp.only o1 h1 h2; clear hm; have hm := hm1; clear hm1; replace ch := ch.trans (Chg.of_only o1 (by simp) (by simp)); clear l0 l1 l2 l3; obtain ⟨l0, l1, l2, l3⟩ := hp.cells; have fz := hp.free))
  go_wp2
  go_ret
  exact ⟨rfl, mem_set hm h1 h2 _, hp.set2 2, ch.setCell (by simp) _⟩

set_option maxHeartbeats 1000000 in
theorem again_same {M G P : Nat} {m : MS} {w : World} {E e : Nat} {L : Int} (hm : IsMem w M G m) (hp : IsPin w P E L 2 e) (h1 : P ≠ M) (h2 : P ≠ G) (hX : 1 < m.X.length) (ht : 0 ≤ m.t ∧ m.t < 4611686018427387904) (hv : m.X.getD 1 0 = e) :
    Calls Try.prog 35 #[.pointer (some ⟨P, 0, none⟩), .pointer (some ⟨M, 0, none⟩)] w fun r w' => r = .returned (.tuple #[]) ∧ IsMem w' M G (touched m 1 1 e) ∧ IsPin w' P e L 3 e ∧ Chg [P, M, G] w w' := by
  have c0 := Mm.load_in hm 1 hX ht
  rw [hv] at c0
  generalize touched m 1 1 e = m' at *
  clear hm hX ht hv
  go_enter Try.func35, Try.ntmps35
  go_wp2_with (go_at_call 21; refine c0.mono ?_; rintro e w1 ⟨rfl, hm1, o1⟩; replace hp := hp.only o1 h1 h2; obtain ⟨l0, l1, l2, l3⟩ := hp.cells; have fz := hp.free)
  go_end0
  exact ⟨rfl, mem_set (mem_set hm1 h1 h2 _) h1 h2 _, (hp.set0 e).set2 3, ((Chg.of_only o1 (by simp) (by simp) : Chg [P, M, G] w w1).setCell (by simp) _).setCell (by simp) _⟩

set_option maxHeartbeats 1000000 in
theorem again_other {M G P : Nat} {m : MS} {w : World} {E e v : Nat} {L : Int} (hm : IsMem w M G m) (hp : IsPin w P E L 2 e) (h1 : P ≠ M) (h2 : P ≠ G) (hX : 1 < m.X.length) (ht : 0 ≤ m.t ∧ m.t < 4611686018427387904) (hv : m.X.getD 1 0 = v) (hne : v ≠ e) :
    Calls Try.prog 35 #[.pointer (some ⟨P, 0, none⟩), .pointer (some ⟨M, 0, none⟩)] w fun r w' => r = .returned (.tuple #[]) ∧ IsMem w' M G (touched m 1 1 v) ∧ IsPin w' P E L 1 v ∧ Chg [P, M, G] w w' := by
  have c0 := Mm.load_in hm 1 hX ht
  rw [hv] at c0
  generalize touched m 1 1 v = m' at *
  clear hm hX ht hv
  go_enter Try.func35, Try.ntmps35
  go_wp2_with (go_at_call 21; refine c0.mono ?_; rintro e w1 ⟨rfl, hm1, o1⟩; replace hp := hp.only o1 h1 h2; obtain ⟨l0, l1, l2, l3⟩ := hp.cells; have fz := hp.free)
  refine bodyPost_ret (results_none rfl _ _ _) rfl ?_
  exact ⟨rfl, mem_set (mem_set hm1 h1 h2 _) h1 h2 _, (hp.set3 v).set2 1, ((Chg.of_only o1 (by simp) (by simp) : Chg [P, M, G] w w1).setCell (by simp) _).setCell (by simp) _⟩

set_option maxHeartbeats 1000000 in
theorem pin_2y {M G P : Nat} {m : MS} {w : World} {E e : Nat} {L : Int} (hm : IsMem w M G m) (hp : IsPin w P E L 2 e) (h1 : P ≠ M) (h2 : P ≠ G) (hX : 1 < m.X.length) (ht : 0 ≤ m.t ∧ m.t < 4611686018427387904) (hv : m.X.getD 1 0 = e) :
    Calls Try.prog 17 #[.pointer (some ⟨P, 0, none⟩), .pointer (some ⟨M, 0, none⟩)] w fun r w' => r = .returned (.bool true) ∧ IsMem w' M G (touched m 1 1 e) ∧ IsPin w' P e L 3 e ∧ Chg [P, M, G] w w' := by
  have c0 := again_same hm hp h1 h2 hX ht hv
  clear hm hX ht hv
  obtain ⟨l0, l1, l2, l3⟩ := hp.cells
  go_enter Try.func17, Try.ntmps17
  go_wp2_with (go_at_call 35; refine c0.mono ?_; rintro e w1 ⟨rfl, hm1, hp1, o1⟩; clear l0 l1 l2 l3 hp; obtain ⟨l0, l1, l2, l3⟩ := hp1.cells)
  go_ret
  exact ⟨rfl, hm1, hp1, o1⟩

set_option maxHeartbeats 1000000 in
theorem pin_2n {M G P : Nat} {m : MS} {w : World} {E e v : Nat} {L : Int} (hm : IsMem w M G m) (hp : IsPin w P E L 2 e) (h1 : P ≠ M) (h2 : P ≠ G) (hX : 1 < m.X.length) (ht : 0 ≤ m.t ∧ m.t < 4611686018427387904) (hv : m.X.getD 1 0 = v) (hne : v ≠ e) :
    Calls Try.prog 17 #[.pointer (some ⟨P, 0, none⟩), .pointer (some ⟨M, 0, none⟩)] w fun r w' => r = .returned (.bool false) ∧ IsMem w' M G (touched m 1 1 v) ∧ IsPin w' P E L 1 v ∧ Chg [P, M, G] w w' := by
  have c0 := again_other hm hp h1 h2 hX ht hv hne
  clear hm hX ht hv
  obtain ⟨l0, l1, l2, l3⟩ := hp.cells
  go_enter Try.func17, Try.ntmps17
  go_wp2_with (go_at_call 35; refine c0.mono ?_; rintro e w1 ⟨rfl, hm1, hp1, o1⟩; clear l0 l1 l2 l3 hp; obtain ⟨l0, l1, l2, l3⟩ := hp1.cells)
  go_ret
  exact ⟨rfl, hm1, hp1, o1⟩

theorem pin_3 {M P : Nat} {w : World} {E e : Nat} {L : Int} (hp : IsPin w P E L 3 e) :
    Calls Try.prog 17 #[.pointer (some ⟨P, 0, none⟩), .pointer (some ⟨M, 0, none⟩)] w fun r w' => r = .returned (.bool true) ∧ w = w' := by
  obtain ⟨l0, l1, l2, l3⟩ := hp.cells
  go_enter Try.func17, Try.ntmps17
  go_wp2
  go_ret
  exact ⟨rfl, rfl⟩
end Go.Proofs.Ytpfcpkkillklkaa
