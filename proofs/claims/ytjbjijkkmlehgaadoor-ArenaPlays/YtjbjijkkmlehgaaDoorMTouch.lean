/- Contracts of package mem's methods over a memory that lies in the heap, and over none. -/
import Derived.Test.YtjbjijkkmlehgaaDoorRows
import Derived.Test.YtjbjijkkmlehgaaDoorMBase
import Derived.Laws.BitsAllLaws
import Derived.OpenShut
namespace Go.Proofs.YtjbjijkkmlehgaaDoor.Mm
open Go.RowKit

set_option maxHeartbeats 400000 in
theorem touch_any {M G : Nat} {s : MS} {w : World} (h : IsMem w M G s) (kd : Int) (i v : Nat) (hi : i < s.X.length) (hv : v < 18446744073709551616) (ht : 0 ≤ s.t ∧ s.t < 4611686018427387904) :
    Calls Tryd.prog 55 #[.pointer (some ⟨M, 0, none⟩), .int .i64 kd, .int .i64 i, .int .u64 v] w fun e w' => e = .returned (.tuple #[]) ∧ IsMem w' M G (touched s kd i v) ∧ Only M G w w' := by
  have hm := mem_touched h kd i v hv
  have ho := @only_touched w M G (.int .i64 kd) (.int .i64 i) (.int .u64 (s.X.getD i 0 : Nat)) (.int .u64 v) (.int .u64 v) (.int .i64 (s.t + 1)) i
  have HR : Hid (IsMem ((((((w.setCell ⟨M, 2, none⟩ (.int .i64 kd)).setCell ⟨M, 3, none⟩ (.int .i64 i)).setCell ⟨M, 4, none⟩ (.int .u64 (s.X.getD i 0 : Nat))).setCell ⟨M, 5, none⟩ (.int .u64 v)).setCell ⟨G, i, none⟩ (.int .u64 v)).setCell ⟨M, 1, none⟩ (.int .i64 (s.t + 1))) M G (touched s kd i v)) := hm
  have HO : Hid (Only M G w ((((((w.setCell ⟨M, 2, none⟩ (.int .i64 kd)).setCell ⟨M, 3, none⟩ (.int .i64 i)).setCell ⟨M, 4, none⟩ (.int .u64 (s.X.getD i 0 : Nat))).setCell ⟨M, 5, none⟩ (.int .u64 v)).setCell ⟨G, i, none⟩ (.int .u64 v)).setCell ⟨M, 1, none⟩ (.int .i64 (s.t + 1)))) := ho
  clear hm ho
  have h0 := h.c0
  have h1 := h.c1
  have h2 := h.c2
  have h3 := h.c3
  have h4 := h.c4
  have h5 := h.c5
  have f0 := h.fM
  have f1 := h.fG
  have hc := h.word i hi
  have hne := h.ne
  clear h
  generalize hX : s.X.getD i 0 = old at *
  generalize hL : s.X.length = n at *
  generalize hT : s.t = t at *
  clear hX hL hT
  go_enter Tryd.func55, Tryd.ntmps55
  go_wp2
  go_end0
  exact ⟨rfl, HR.out, HO.out⟩

set_option maxHeartbeats 400000 in
theorem has_any {M G : Nat} {s : MS} {w : World} (h : IsMem w M G s) (a : Int) : Calls Tryd.prog 54 #[.pointer (some ⟨M, 0, none⟩), .int .i64 a] w fun e w' => e = .returned (.bool (decide (0 ≤ a) && decide (a < (s.X.length : Nat)))) ∧ w = w' := by
  go_enter Tryd.func54, Tryd.ntmps54
  go_wp2_with (go_at_call 43; refine (size_any h).mono ?_; rintro e w' ⟨rfl, rfl⟩)
  all_goals go_ret
  · exact ⟨congrArg (fun b => Ending.returned (Value.bool b)) (by simp [*]), rfl⟩
  · have hn : ¬ 0 ≤ a := by omega
    exact ⟨congrArg (fun b => Ending.returned (Value.bool b)) (by simp [hn]), rfl⟩

set_option maxHeartbeats 400000 in
theorem has_nil (a : Int) (w : World) : Calls Tryd.prog 54 #[.pointer none, .int .i64 a] w fun e w' => e = .returned (.bool false) ∧ w = w' := by
  go_enter Tryd.func54, Tryd.ntmps54
  go_wp2_with (go_at_call 43; refine (size_nil _).mono ?_; rintro e w' ⟨rfl, rfl⟩)
  all_goals go_ret
  · have hn : ¬ a < 0 := by omega
    exact ⟨congrArg (fun b => Ending.returned (Value.bool b)) (by simp [hn]), rfl⟩
  · exact ⟨rfl, rfl⟩

def inR (s : MS) (a : Int) : Bool := decide (0 ≤ a) && decide (a < (s.X.length : Nat))
theorem inR_iff (s : MS) (a : Int) : inR s a = true ↔ 0 ≤ a ∧ a < (s.X.length : Nat) := by simp [inR]
theorem inR_no {s : MS} {a : Int} (h : ¬ (0 ≤ a ∧ a < (s.X.length : Nat))) : inR s a = false := by
  cases e : inR s a
  · rfl
  · exact absurd ((inR_iff s a).1 e) h
theorem has_R {M G : Nat} {s : MS} {w : World} (h : IsMem w M G s) (a : Int) (g : Bool) (hg : inR s a = g) : Calls Tryd.prog 54 #[.pointer (some ⟨M, 0, none⟩), .int .i64 a] w fun e w' => e = .returned (.bool g) ∧ w = w' := by
  subst hg; exact has_any h a

/-! Load -/
set_option maxHeartbeats 400000 in
theorem load_in {M G : Nat} {s : MS} {w : World} (h : IsMem w M G s) (i : Nat) (hi : i < s.X.length) (ht : 0 ≤ s.t ∧ s.t < 4611686018427387904) :
    Calls Tryd.prog 50 #[.pointer (some ⟨M, 0, none⟩), .int .i64 i] w fun e w' => e = .returned (.int .u64 (s.X.getD i 0 : Nat)) ∧ IsMem w' M G (touched s 1 i (s.X.getD i 0)) ∧ Only M G w w' := by
  have c1 := has_R h i true ((inR_iff s i).2 (by omega))
  have c2 := touch_any h 1 i (s.X.getD i 0) hi (h.word_lt i) ht
  have h0 := h.c0
  have hc := h.word i hi
  clear h
  generalize hX : s.X.getD i 0 = old at *
  generalize hL : s.X.length = n at *
  clear hX hL
  go_enter Tryd.func50, Tryd.ntmps50
  go_wp2_with (first
    | (go_at_call 54; refine c1.mono ?_; rintro e w' ⟨rfl, rfl⟩)
    | (go_at_call 55; refine c2.mono ?_; rintro e w' ⟨rfl, hm, ho⟩))
  go_ret
  exact ⟨rfl, by assumption, by assumption⟩

set_option maxHeartbeats 400000 in
theorem load_out {M G : Nat} {s : MS} {w : World} (h : IsMem w M G s) (a : Int) (ha : inR s a = false) :
    Calls Tryd.prog 50 #[.pointer (some ⟨M, 0, none⟩), .int .i64 a] w fun e w' => e = .returned (.int .u64 0) ∧ w = w' := by
  have c1 := has_R h a false ha
  go_enter Tryd.func50, Tryd.ntmps50
  go_wp2_with (go_at_call 54; refine c1.mono ?_; rintro e w' ⟨rfl, rfl⟩)
  go_ret
  exact ⟨rfl, rfl⟩

set_option maxHeartbeats 400000 in
theorem load_nil (a : Int) (w : World) : Calls Tryd.prog 50 #[.pointer none, .int .i64 a] w fun e w' => e = .returned (.int .u64 0) ∧ w = w' := by
  go_enter Tryd.func50, Tryd.ntmps50
  go_wp2_with (go_at_call 54; refine (has_nil a _).mono ?_; rintro e w' ⟨rfl, rfl⟩)
  go_ret
  exact ⟨rfl, rfl⟩

/-! Store -/
set_option maxHeartbeats 400000 in
theorem store_in {M G : Nat} {s : MS} {w : World} (h : IsMem w M G s) (i v : Nat) (hi : i < s.X.length) (hv : v < 18446744073709551616) (ht : 0 ≤ s.t ∧ s.t < 4611686018427387904) :
    Calls Tryd.prog 24 #[.pointer (some ⟨M, 0, none⟩), .int .i64 i, .int .u64 v] w fun e w' => e = .returned (.bool true) ∧ IsMem w' M G (touched s 2 i v) ∧ Only M G w w' := by
  have c1 := has_R h i true ((inR_iff s i).2 (by omega))
  have c2 := touch_any h 2 i v hi hv ht
  clear h
  go_enter Tryd.func24, Tryd.ntmps24
  go_wp2_with (first
    | (go_at_call 54; refine c1.mono ?_; rintro e w' ⟨rfl, rfl⟩)
    | (go_at_call 55; refine c2.mono ?_; rintro e w' ⟨rfl, hm, ho⟩))
  go_ret
  exact ⟨rfl, by assumption, by assumption⟩

set_option maxHeartbeats 400000 in
theorem store_out {M G : Nat} {s : MS} {w : World} (h : IsMem w M G s) (a : Int) (v : Nat) (ha : inR s a = false) :
    Calls Tryd.prog 24 #[.pointer (some ⟨M, 0, none⟩), .int .i64 a, .int .u64 v] w fun e w' => e = .returned (.bool false) ∧ w = w' := by
  have c1 := has_R h a false ha
  go_enter Tryd.func24, Tryd.ntmps24
  go_wp2_with (go_at_call 54; refine c1.mono ?_; rintro e w' ⟨rfl, rfl⟩)
  go_ret
  exact ⟨rfl, rfl⟩

set_option maxHeartbeats 400000 in
theorem store_nil (a : Int) (v : Nat) (w : World) : Calls Tryd.prog 24 #[.pointer none, .int .i64 a, .int .u64 v] w fun e w' => e = .returned (.bool false) ∧ w = w' := by
  go_enter Tryd.func24, Tryd.ntmps24
  go_wp2_with (go_at_call 54; refine (has_nil a _).mono ?_; rintro e w' ⟨rfl, rfl⟩)
  go_ret
  exact ⟨rfl, rfl⟩

/-! Swap -/
set_option maxHeartbeats 400000 in
theorem swap_yes {M G : Nat} {s : MS} {w : World} (h : IsMem w M G s) (i o v : Nat) (hi : i < s.X.length) (hv : v < 18446744073709551616) (ho : s.X.getD i 0 = o) (ht : 0 ≤ s.t ∧ s.t < 4611686018427387904) :
    Calls Tryd.prog 94 #[.pointer (some ⟨M, 0, none⟩), .int .i64 i, .int .u64 o, .int .u64 v] w fun e w' => e = .returned (.bool true) ∧ IsMem w' M G (touched s 3 i v) ∧ Only M G w w' := by
  have c1 := has_R h i true ((inR_iff s i).2 (by omega))
  have c2 := touch_any h 3 i v hi hv ht
  have h0 := h.c0
  have hc := h.word i hi
  clear h
  rw [ho] at hc
  clear ho
  generalize hL : s.X.length = n at *
  clear hL
  go_enter Tryd.func94, Tryd.ntmps94
  go_wp2_with (first
    | (go_at_call 54; refine c1.mono ?_; rintro e w' ⟨rfl, rfl⟩)
    | (go_at_call 55; refine c2.mono ?_; rintro e w' ⟨rfl, hm, ho⟩))
  go_ret
  exact ⟨rfl, by assumption, by assumption⟩

set_option maxHeartbeats 400000 in
theorem swap_no {M G : Nat} {s : MS} {w : World} (h : IsMem w M G s) (i o v : Nat) (hi : i < s.X.length) (ho : s.X.getD i 0 ≠ o) (ht : 0 ≤ s.t ∧ s.t < 4611686018427387904) :
    Calls Tryd.prog 94 #[.pointer (some ⟨M, 0, none⟩), .int .i64 i, .int .u64 o, .int .u64 v] w fun e w' => e = .returned (.bool false) ∧ IsMem w' M G (touched s 3 i (s.X.getD i 0)) ∧ Only M G w w' := by
  have c1 := has_R h i true ((inR_iff s i).2 (by omega))
  have c2 := touch_any h 3 i (s.X.getD i 0) hi (h.word_lt i) ht
  have h0 := h.c0
  have hc := h.word i hi
  clear h
  generalize hX : s.X.getD i 0 = old at *
  generalize hL : s.X.length = n at *
  clear hX hL
  have hno : ((old : Int) != (o : Int)) = true := by simp; omega
  go_enter Tryd.func94, Tryd.ntmps94
  go_wp2_with (first
    | (go_at_call 54; refine c1.mono ?_; rintro e w' ⟨rfl, rfl⟩)
    | (go_at_call 55; refine c2.mono ?_; rintro e w' ⟨rfl, hm, ho⟩))
  go_ret
  exact ⟨rfl, by assumption, by assumption⟩

set_option maxHeartbeats 400000 in
theorem swap_out {M G : Nat} {s : MS} {w : World} (h : IsMem w M G s) (a : Int) (o v : Nat) (ha : inR s a = false) :
    Calls Tryd.prog 94 #[.pointer (some ⟨M, 0, none⟩), .int .i64 a, .int .u64 o, .int .u64 v] w fun e w' => e = .returned (.bool false) ∧ w = w' := by
  have c1 := has_R h a false ha
  go_enter Tryd.func94, Tryd.ntmps94
  go_wp2_with (go_at_call 54; refine c1.mono ?_; rintro e w' ⟨rfl, rfl⟩)
  go_ret
  exact ⟨rfl, rfl⟩

set_option maxHeartbeats 400000 in
theorem swap_nil (a : Int) (o v : Nat) (w : World) : Calls Tryd.prog 94 #[.pointer none, .int .i64 a, .int .u64 o, .int .u64 v] w fun e w' => e = .returned (.bool false) ∧ w = w' := by
  go_enter Tryd.func94, Tryd.ntmps94
  go_wp2_with (go_at_call 54; refine (has_nil a _).mono ?_; rintro e w' ⟨rfl, rfl⟩)
  go_ret
  exact ⟨rfl, rfl⟩

/-! Add -/
def sumW (x y : Nat) : Nat := (x + y) % 18446744073709551616
theorem sumW_lt (x y : Nat) : sumW x y < 18446744073709551616 := Nat.mod_lt _ (by omega)
theorem sumW_eq (x y : Nat) : IntKind.u64.wrap ((x : Int) + (y : Int)) = (sumW x y : Nat) := by rw [IntKind.wrap_u64, sumW]; omega

end Go.Proofs.YtjbjijkkmlehgaaDoor.Mm
