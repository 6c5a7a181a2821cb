/- Contracts of package root's Table. -/
import Derived.Test.YtnegdabcjnhpdaaRHeap
namespace Go.Proofs.Ytnegdabcjnhpdaa
open Go.RowKit
open Mm (Only wordsOf)

theorem eparts {x : En} (h : EnOk x) (w : World) : Calls Try.prog 19 #[.int .u64 (enW x : Nat)] w fun e w' => e = .returned (.tuple #[.int .u64 (x.1 : Nat), .int .i64 x.2]) ∧ Below w.heap.size w w' := by
  have c := Tg.entryParts_any (enW x) h.lt w
  rw [h.div, h.mod] at c
  exact c
theorem entryOf {x : En} (h : EnOk x) (w : World) : Calls Try.prog 15 #[.int .u64 (x.1 : Nat), .int .i64 x.2] w fun e w' => e = .returned (.tuple #[.int .u64 (enW x : Nat), .bool true]) ∧ Below w.heap.size w w' := by
  have c := Tg.entry_any x.1 x.2 (by have := h.t; omega) w
  rw [h.top.1, h.top.2] at c
  exact c

set_option maxHeartbeats 400000 in
theorem free_any {x : En} (h : EnOk x) (w : World) : Calls Try.prog 31 #[.int .u64 (enW x : Nat)] w fun e w' => e = .returned (.bool (frE x)) ∧ Below w.heap.size w w' := by
  have c := eparts h
  have ht := h.t
  unfold frE
  by_cases h1 : x.2 = -1
  · rw [h1] at c
    have e : (decide (x.2 = -1) && decide (x.1 < 4294967295)) = decide ((x.1 : Int) < 4294967295) := by
      rw [decide_eq_true h1, Bool.true_and]; exact decide_eq_decide.2 (by omega)
    rw [e]
    clear e h1 h
    generalize (x.1 : Int) = z at *
    go_enter Try.func31, Try.ntmps31
    go_wp2_with (go_at_call 19; refine (c _).mono ?_; rintro e w1 ⟨rfl, b⟩)
    go_ret
    exact ⟨rfl, b⟩
  · have e : (decide (x.2 = -1) && decide (x.1 < 4294967295)) = false := by rw [decide_eq_false h1, Bool.false_and]
    rw [e]
    have hz : (x.2 == -1) = false := by simpa using h1
    clear e h1
    generalize (x.1 : Int) = z at *
    generalize x.2 = y at *
    go_enter Try.func31, Try.ntmps31
    go_wp2_with (go_at_call 19; refine (c _).mono ?_; rintro e w1 ⟨rfl, b⟩)
    go_ret
    exact ⟨rfl, b⟩

set_option maxHeartbeats 1000000 in
theorem firstFree_any {P R : Nat} {t : Tb} {w : World} (h : IsTab w P R t) : Calls Try.prog 18 #[.pointer (some ⟨P, 0, none⟩)] w fun e w' => e = .returned (.int .i64 (ffI t.A)) ∧ Below w.heap.size w w' := by
  obtain ⟨n, hn⟩ : ∃ n, t.A.length = n := ⟨_, rfl⟩
  have hn16 := h.ok.d16
  have c7 := h.cells.2.2.2.2.2.2.2
  rw [hn] at c7 hn16
  go_enter Try.func18, Try.ntmps18
  go_wp2
  go_loopw [10] (fun i wr => ∃ k : Nat, k ≤ n ∧ i = .int .i64 k ∧ Below w.heap.size w wr ∧ ∀ j, j < k → frE (t.A.getD j (0, 0)) = false) (fun i _ => n - (intOf i).toNat)
  case atStart => exact ⟨0, Nat.zero_le _, rfl, Below.refl _ _, fun j hj => by omega⟩
  case round =>
    obtain ⟨k, hk, rfl, bel, hb⟩ := hrel
    by_cases hlt : k < n
    · have hr := (h.below bel).word (i := k) (by omega)
      have ho := (h.ok.at (i := k) (by omega))
      have cf := free_any ho
      cases hf : frE (t.A.getD k (0, 0))
      · rw [hf] at cf
        clear c7
        generalize enW (t.A.getD k (0, 0)) = W at *
        go_wp2_with (go_at_call 31; refine (cf _).mono ?_; rintro e w1 ⟨rfl, b⟩)
        go_roundw
        case rel => exact ⟨k + 1, by omega, by go_num, bel.trans (b.mono bel.size), fun j hj => by
          rcases Nat.lt_succ_iff_lt_or_eq.1 hj with h1 | rfl
          · exact hb j h1
          · exact hf⟩
        case measure => simp [intOf]; omega
      · rw [hf] at cf
        have e0 : ffI t.A = (k : Int) := by unfold ffI; rw [ff_is (by omega) hf hb]
        have E : Hid (ffI t.A = (k : Int)) := e0
        clear e0
        clear c7
        generalize enW (t.A.getD k (0, 0)) = W at *
        go_wp2_with (go_at_call 31; refine (cf _).mono ?_; rintro e w1 ⟨rfl, b⟩)
        go_ret
        exact ⟨by rw [E.out]; rfl, bel.trans (b.mono bel.size)⟩
    · have e : ffI t.A = -1 := by unfold ffI; rw [ff_nil (fun j hj => hb j (by omega))]
      have E : Hid (ffI t.A = -1) := e
      clear e
      go_wp2
      go_ret
      exact ⟨by rw [E.out]; rfl, bel⟩

set_option maxHeartbeats 1000000 in
theorem held_any {P R : Nat} {t : Tb} {w : World} (h : IsTab w P R t) : Calls Try.prog 13 #[.pointer (some ⟨P, 0, none⟩)] w fun e w' => e = .returned (.int .i64 (heldE t.A : Nat)) ∧ Below w.heap.size w w' := by
  obtain ⟨n, hn⟩ : ∃ n, t.A.length = n := ⟨_, rfl⟩
  have hn16 := h.ok.d16
  have c7 := h.cells.2.2.2.2.2.2.2
  rw [hn] at c7 hn16
  have e0 : heldE t.A = heldE (t.A.take n) := by rw [List.take_of_length_le (by omega)]
  rw [e0]
  clear e0
  go_enter Try.func13, Try.ntmps13
  go_wp2
  go_loopw [3, 15] (fun c i wr => ∃ k : Nat, k ≤ n ∧ i = .int .i64 k ∧ Below w.heap.size w wr ∧ c = .int .i64 (heldE (t.A.take k) : Nat)) (fun _ i _ => n - (intOf i).toNat)
  case atStart => exact ⟨0, Nat.zero_le _, rfl, Below.refl _ _, rfl⟩
  case round =>
    obtain ⟨k, hk, rfl, bel, rfl⟩ := hrel
    have hl := held_le t.A k
    by_cases hlt : k < n
    · have hr := (h.below bel).word (i := k) (by omega)
      have ho := (h.ok.at (i := k) (by omega))
      have cf := eparts ho
      have hs := held_take t.A k (by omega)
      by_cases hf : (t.A.getD k (0, 0)).2 = -1
      · rw [if_neg (fun x => x hf)] at hs
        rw [hf] at cf
        have HS : Hid (heldE (t.A.take (k + 1)) = heldE (t.A.take k) + 0) := hs
        clear c7 hs
        generalize enW (t.A.getD k (0, 0)) = W at *
        go_wp2_with (go_at_call 19; refine (cf _).mono ?_; rintro e w1 ⟨rfl, b⟩)
        go_roundw
        case rel => exact ⟨k + 1, by omega, by go_num, bel.trans (b.mono bel.size), by rw [HS.out]; rfl⟩
        case measure => simp [intOf]; omega
      · rw [if_pos hf] at hs
        have HS : Hid (heldE (t.A.take (k + 1)) = heldE (t.A.take k) + 1) := hs
        have hz : ((t.A.getD k (0, 0)).2 == -1) = false := by simpa using hf
        clear c7 hs hf
        generalize enW (t.A.getD k (0, 0)) = W at *
        generalize (t.A.getD k (0, 0)).2 = y at *
        go_wp2_with (go_at_call 19; refine (cf _).mono ?_; rintro e w1 ⟨rfl, b⟩)
        go_roundw
        case rel => exact ⟨k + 1, by omega, by go_num, bel.trans (b.mono bel.size), by rw [HS.out]; go_num⟩
        case measure => simp [intOf]; omega
    · obtain rfl : k = n := by omega
      go_wp2
      go_ret
      exact ⟨rfl, bel⟩

theorem ffI_none {A : List En} (h : ff A = none) : ffI A = -1 := by unfold ffI; rw [h]
theorem ffI_some {A : List En} {i : Nat} (h : ff A = some i) : ffI A = (i : Int) := by unfold ffI; rw [h]

set_option maxHeartbeats 400000 in
theorem room_any {P R : Nat} {t : Tb} {w : World} (h : IsTab w P R t) : Calls Try.prog 14 #[.pointer (some ⟨P, 0, none⟩)] w fun e w' => e = .returned (.bool (ff t.A).isSome) ∧ Below w.heap.size w w' := by
  have c := firstFree_any h
  cases hf : ff t.A with
  | none =>
    rw [ffI_none hf] at c
    go_enter Try.func14, Try.ntmps14
    go_wp2_with (go_at_call 18; refine c.mono ?_; rintro e w1 ⟨rfl, b⟩)
    go_ret
    exact ⟨rfl, b⟩
  | some i =>
    rw [ffI_some hf] at c
    have hz : ((i : Int) == -1) = false := by simp
    go_enter Try.func14, Try.ntmps14
    go_wp2_with (go_at_call 18; refine c.mono ?_; rintro e w1 ⟨rfl, b⟩)
    go_ret
    exact ⟨rfl, b⟩

set_option maxHeartbeats 400000 in
theorem has_any {P R : Nat} {t : Tb} {w : World} (h : IsTab w P R t) (i : Int) : Calls Try.prog 21 #[.pointer (some ⟨P, 0, none⟩), .int .i64 i] w fun e w' => e = .returned (.bool (be i t.A.length)) ∧ w = w' := by
  have c7 := h.cells.2.2.2.2.2.2.2
  generalize t.A.length = n at *
  by_cases h0 : 0 ≤ i
  · have e : be i n = decide (i < (n : Int)) := by simp [be, h0]
    rw [e]
    go_enter Try.func21, Try.ntmps21
    go_wp2
    go_ret
    exact ⟨rfl, rfl⟩
  · have e : be i n = false := by simp [be, h0]
    rw [e]
    go_enter Try.func21, Try.ntmps21
    go_wp2
    go_ret
    exact ⟨rfl, rfl⟩

theorem has_nil (i : Int) (w : World) : Calls Try.prog 21 #[.pointer none, .int .i64 i] w fun e w' => e = .returned (.bool false) ∧ w = w' := by
  go_enter Try.func21, Try.ntmps21
  go_wp2
  go_ret
  exact ⟨rfl, rfl⟩

set_option maxHeartbeats 400000 in
theorem word_in {P R : Nat} {t : Tb} {w : World} (h : IsTab w P R t) (i : Nat) (hi : i < t.A.length) : Calls Try.prog 12 #[.pointer (some ⟨P, 0, none⟩), .int .i64 (i : Nat)] w fun e w' => e = .returned (.int .u64 (enW (t.A.getD i (0, 0)) : Nat)) ∧ w = w' := by
  have c7 := h.cells.2.2.2.2.2.2.2
  have hr := h.word hi
  have c := has_any h i
  rw [be_iff.2 (by omega)] at c
  generalize t.A.length = n at *
  generalize enW (t.A.getD i (0, 0)) = W at *
  go_enter Try.func12, Try.ntmps12
  go_wp2_with (go_at_call 21; refine c.mono ?_; rintro e w1 ⟨rfl, rfl⟩)
  go_ret
  exact ⟨rfl, rfl⟩
set_option maxHeartbeats 400000 in
theorem word_out {P R : Nat} {t : Tb} {w : World} (h : IsTab w P R t) (i : Int) (hi : be i t.A.length = false) : Calls Try.prog 12 #[.pointer (some ⟨P, 0, none⟩), .int .i64 i] w fun e w' => e = .returned (.int .u64 0) ∧ w = w' := by
  have c := has_any h i
  rw [hi] at c
  go_enter Try.func12, Try.ntmps12
  go_wp2_with (go_at_call 21; refine c.mono ?_; rintro e w1 ⟨rfl, rfl⟩)
  go_ret
  exact ⟨rfl, rfl⟩
theorem word_nil (i : Int) (w : World) : Calls Try.prog 12 #[.pointer none, .int .i64 i] w fun e w' => e = .returned (.int .u64 0) ∧ w = w' := by
  go_enter Try.func12, Try.ntmps12
  go_wp2_with (go_at_call 21; refine (has_nil i _).mono ?_; rintro e w1 ⟨rfl, rfl⟩)
  go_ret
  exact ⟨rfl, rfl⟩

theorem results_tmp3 {fn : Func} {t u v : Tmp} (h : fn.results = #[.tmp t, .tmp u, .tmp v]) (tmps : Array Value) (P : Program) (w : World) :
    (results fn tmps).run P w = .ok (.tuple #[tmps.getD t undef, tmps.getD u undef, tmps.getD v undef]) w := by
  simp [results, h]

theorem held_nil (w : World) : Calls Try.prog 13 #[.pointer none] w fun e w' => e = .returned (.int .i64 0) ∧ w = w' := by
  go_enter Try.func13, Try.ntmps13
  go_wp2
  go_ret
  exact ⟨rfl, rfl⟩
theorem room_nil (w : World) : Calls Try.prog 14 #[.pointer none] w fun e w' => e = .returned (.bool false) ∧ w = w' := by
  go_enter Try.func14, Try.ntmps14
  go_wp2
  go_ret
  exact ⟨rfl, rfl⟩
theorem drop_nil (i : Int) (w : World) : Calls Try.prog 9 #[.pointer none, .int .i64 i] w fun e w' => e = .returned (.bool false) ∧ w = w' := by
  go_enter Try.func9, Try.ntmps9
  go_wp2_with (go_at_call 21; refine (has_nil i _).mono ?_; rintro e w1 ⟨rfl, rfl⟩)
  go_ret
  exact ⟨rfl, rfl⟩
theorem take_nil (i : Int) (w : World) : Calls Try.prog 7 #[.pointer none, .int .i64 i] w fun e w' => e = .returned (.tuple #[.int .i64 0, .int .u64 0, .bool false]) ∧ w = w' := by
  go_enter Try.func7, Try.ntmps7
  go_wp2
  refine bodyPost_ret (results_tmp3 rfl _ _ _) rfl ?_
  exact ⟨rfl, rfl⟩
set_option maxHeartbeats 400000 in
theorem find_nil (x : Nat) (hx : x < 18446744073709551616) (w : World) : Calls Try.prog 10 #[.pointer none, .int .u64 (x : Nat)] w fun e w' => e = .returned (.tuple #[.int .i64 0, .int .i64 0, .bool false]) ∧ Below w.heap.size w w' := by
  have c := Tg.parts_any x hx
  generalize Tg.pC x = C at *
  generalize Tg.pE x = E at *
  generalize Tg.pT x = U at *
  generalize Tg.pOk x = O at *
  clear hx
  generalize (x : Int) = y at *
  cases O
  · go_enter Try.func10, Try.ntmps10
    go_wp2_with (first
      | (go_at_call 22; refine (c _).mono ?_; rintro e w1 ⟨rfl, b⟩)
      | (go_at_call 21; refine (has_nil _ _).mono ?_; rintro e w1 ⟨rfl, rfl⟩))
    refine bodyPost_ret (results_tmp3 rfl _ _ _) rfl ?_
    exact ⟨rfl, b⟩
  · go_enter Try.func10, Try.ntmps10
    go_wp2_with (first
      | (go_at_call 22; refine (c _).mono ?_; rintro e w1 ⟨rfl, b⟩)
      | (go_at_call 21; refine (has_nil _ _).mono ?_; rintro e w1 ⟨rfl, rfl⟩))
    refine bodyPost_ret (results_tmp3 rfl _ _ _) rfl ?_
    exact ⟨rfl, b⟩
end Go.Proofs.Ytnegdabcjnhpdaa
