/- The reference's Laid: the words that it comes to, as a function; no program in sight. -/
import Derived.Test.YtcioomopgdhlmaaGreatDoorBGray
import Derived.Test.YtcioomopgdhlmaaGreatDoorDA
namespace Go.Proofs.YtcioomopgdhlmaaGreatDoor
open Go.RowKit
open Hh (wordOf okW Hr rightH)

theorem hid1 {p : Prop} (h : p) : Hid p := h
/-- A slot that comes in: its header, how long its body is, its words. -/
structure Sv where
  h : Hv
  bl : Nat
  b : Nat → Nat
def Sv.ok (v : Sv) : Bool := rightH v.h.k v.h.m v.h.a v.h.n v.h.s
def Sv.word (v : Sv) : Nat := wordOf v.h.k.toNat v.h.m.toNat v.h.g.toNat v.h.a.toNat v.h.n.toNat v.h.s.toNat
def useS (n : Nat) (Z : Nat → Sv) (s : Nat) : Bool := decide (s < n) && (Z s).ok
def hwS (n : Nat) (Z : Nat → Sv) (s : Nat) : Nat := if useS n Z s = true then (Z s).word else 0
def bodyX (K : Cf) (s : Nat) (b : Nat → Nat) (X : List Nat) : Nat → List Nat
  | 0 => X
  | i + 1 => (bodyX K s b X i).set (K.bd s i) (b i)
def fillX (K : Cf) (n : Nat) (Z : Nat → Sv) (s : Nat) (X : List Nat) : List Nat := if useS n Z s = true then bodyX K s (Z s).b X (min K.B (Z s).bl) else X
def slotX (K : Cf) (n : Nat) (Z : Nat → Sv) (s : Nat) (p : List Nat × Nat) : List Nat × Nat :=
  if hwS n Z s % 8 = 0 then (((fillX K n Z s p.1).set (K.hd s) (hwS n Z s)).set (K.lk s) p.2, s + 1) else ((fillX K n Z s p.1).set (K.hd s) (hwS n Z s), p.2)
def slotsX (K : Cf) (n : Nat) (Z : Nat → Sv) (X : List Nat) : Nat → List Nat × Nat
  | 0 => (X, 0)
  | d + 1 => slotX K n Z (K.S - 1 - d) (slotsX K n Z X d)
def Cf.en (K : Cf) (k i : Nat) : Nat := 4 + K.C + k * K.D + i
def Cf.vw (K : Cf) (k : Nat) : Nat := 4 + K.C + K.C * K.D + 2 * k
def Cf.st (K : Cf) (k : Nat) : Nat := 4 + K.C + K.C * K.D + 2 * k + 1
def rootX (K : Cf) (r : Nat → Nat) (k : Nat) (X : List Nat) : List Nat := if k / K.C < K.D then X.set (K.en (k % K.C) (k / K.C)) (r k % 20) else X.set (K.st (k % K.C)) (r k % 20)
def rootsX (K : Cf) (r : Nat → Nat) (X : List Nat) : Nat → List Nat
  | 0 => X
  | k + 1 => rootX K r k (rootsX K r X k)
def viewsX (K : Cf) (v : Nat → Nat) (X : List Nat) : Nat → List Nat
  | 0 => X
  | k + 1 => (viewsX K v X k).set (K.vw k) (v k)
def heapX (K : Cf) (n : Nat) (Z : Nat → Sv) (nr : Nat) (r : Nat → Nat) (nv : Nat) (v : Nat → Nat) : List Nat :=
  viewsX K v (rootsX K r ((slotsX K n Z (memX K.C K.D K.B K.N (K.S - 1)) K.S).1.set 3 (slotsX K n Z (memX K.C K.D K.B K.N (K.S - 1)) K.S).2) (min nr (K.C * (K.D + 1)))) (min nv K.C)
def laidX (K : Cf) (n : Nat) (Z : Nat → Sv) (nr : Nat) (r : Nat → Nat) (nv : Nat) (v : Nat → Nat) : List Nat :=
  (heapX K n Z nr r nv v).set 2 (grN K (heapX K n Z nr r nv v) K.S)

theorem Cf.en_lt (K : Cf) {k i : Nat} (hk : k < K.C) (hi : i < K.D) : K.en k i < K.N := by
  have h1 : (k + 1) * K.D ≤ K.C * K.D := Nat.mul_le_mul_right _ hk
  rw [Nat.succ_mul] at h1
  unfold Cf.en Cf.N nW; omega
theorem Cf.vw_lt (K : Cf) {k : Nat} (hk : k < K.C) : K.vw k < K.N := by unfold Cf.vw Cf.N nW; omega
theorem Cf.st_lt (K : Cf) {k : Nat} (hk : k < K.C) : K.st k < K.N := by unfold Cf.st Cf.N nW; omega

theorem Sv.parts {v : Sv} (h : v.ok = true) : ∃ Kk Mk A Nn Sk : Nat, Hr Kk Mk A Nn Sk ∧ v.h.k = (Kk : Int) ∧ v.h.m = (Mk : Int) ∧ v.h.a = (A : Int) ∧ v.h.n = (Nn : Int) ∧ v.h.s = (Sk : Int) ∧ v.word = wordOf Kk Mk v.h.g.toNat A Nn Sk := by
  obtain ⟨Kk, Mk, A, Nn, Sk, hH, h1, h2, h3, h4, h5⟩ := right_nat h
  refine ⟨Kk, Mk, A, Nn, Sk, hH, h1, h2, h3, h4, h5, ?_⟩
  unfold Sv.word
  rw [h1, h2, h3, h4, h5]
  rfl
theorem Sv.word_lt {v : Sv} (h : v.ok = true) : v.word < 18446744073709551616 := by
  obtain ⟨Kk, Mk, A, Nn, Sk, hH, _, _, _, _, _, e⟩ := v.parts h
  rw [e]
  exact Hh.wordOf_lt _ _ _ _ _ _ (by have := hH.k; omega) hH.m (Hh.bool_lt _) hH.a hH.n hH.s
theorem hwS_lt (n : Nat) (Z : Nat → Sv) (s : Nat) : hwS n Z s < 18446744073709551616 := by
  unfold hwS
  split
  · rename_i h
    unfold useS at h
    simp only [Bool.and_eq_true, decide_eq_true_eq] at h
    exact Sv.word_lt h.2
  · omega

/-- Words of a right length, all of 64 bits. -/
structure Fitw (K : Cf) (X : List Nat) : Prop where
  len : X.length = K.N
  lt : ∀ x ∈ X, x < 18446744073709551616
theorem Fitw.set {K : Cf} {X : List Nat} (h : Fitw K X) (i : Nat) {W : Nat} (hW : W < 18446744073709551616) : Fitw K (X.set i W) := ⟨by rw [List.length_set]; exact h.len, fl_set h.lt hW⟩
theorem Fitw.body {K : Cf} {X : List Nat} (h : Fitw K X) (s : Nat) {b : Nat → Nat} : ∀ n, (∀ i, i < n → b i < 18446744073709551616) → Fitw K (bodyX K s b X n)
  | 0, _ => h
  | n + 1, hb => (Fitw.body h s n fun i hi => hb i (by omega)).set _ (hb n (by omega))
theorem Fitw.root {K : Cf} {X : List Nat} (h : Fitw K X) (r : Nat → Nat) (k : Nat) : Fitw K (rootX K r k X) := by
  unfold rootX
  split
  · exact h.set _ (by omega)
  · exact h.set _ (by omega)
theorem Fitw.at {K : Cf} {X : List Nat} (h : Fitw K X) (i : Nat) : X.getD i 0 < 18446744073709551616 := fl_lt h.lt i
/-- Slots in a slice that is only read. -/
def RdV (w : World) (ad : Option Addr) (n : Nat) (Z : Nat → Sv) : Prop := ∀ i, i < n → ∃ b off, ad = some ⟨b, off, none⟩ ∧ b < w.heap.size ∧
  (w.cell? ⟨b, off + i * 7, none⟩ = some (.int .i64 (Z i).h.k) ∧ w.cell? ⟨b, off + i * 7 + 1, none⟩ = some (.int .i64 (Z i).h.m) ∧ w.cell? ⟨b, off + i * 7 + 2, none⟩ = some (.bool (Z i).h.g) ∧ w.cell? ⟨b, off + i * 7 + 3, none⟩ = some (.int .i64 (Z i).h.a) ∧ w.cell? ⟨b, off + i * 7 + 4, none⟩ = some (.int .i64 (Z i).h.n) ∧ w.cell? ⟨b, off + i * 7 + 5, none⟩ = some (.int .i64 (Z i).h.s)) ∧
  ∃ bad bcap, w.cell? ⟨b, off + i * 7 + 6, none⟩ = some (.slice bad (Z i).bl bcap) ∧ (Z i).bl < 9223372036854775808 ∧ ∀ j, j < (Z i).bl → ∃ b' off', bad = some ⟨b', off', none⟩ ∧ b' < w.heap.size ∧ w.cell? ⟨b', off' + j, none⟩ = some (.int .u64 ((Z i).b j : Nat)) ∧ (Z i).b j < 18446744073709551616
/-- Words in a slice that is only read. -/
def RdU (w : World) (ad : Option Addr) (n : Nat) (r : Nat → Nat) : Prop := ∀ i, i < n → ∃ b off, ad = some ⟨b, off, none⟩ ∧ b < w.heap.size ∧ w.cell? ⟨b, off + i, none⟩ = some (.int .u64 (r i : Nat)) ∧ r i < 18446744073709551616
end Go.Proofs.YtcioomopgdhlmaaGreatDoor
