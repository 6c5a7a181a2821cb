/- The document's example of layer 14, reckoned; a new machine. -/
import Derived.Test.YteechgmjaagbmabDoorBRun
import Derived.Test.YteechgmjaagbmabDoorBLd0
namespace Go.Proofs.YteechgmjaagbmabDoor
open Go.RowKit
open Mm (IsMem MS touched Only IsWords)
open Hh (WT)

def K2 : Cf := ⟨2, 1, 1, 1, 9, 0, 3⟩
theorem K2_ok : K2.Ok := ⟨by decide, by decide, by decide, by decide, by decide, by decide, by decide, by decide⟩
def awZ : Nat → Sv := fun _ => ⟨⟨1, 0, false, 0, 0, 0⟩, 0, fun _ => 0⟩
def awX : List Nat := laidX K2 1 awZ 0 (fun _ => 0) 0 (fun _ => 0)
def sw0 (e : Nat) : Sw := ⟨0, e, 0, 0, 0, 0⟩
def re0 : Re := ⟨0, 0, 0, 0, ⟨false, false, ⟨0, 0, 0⟩, 0, 0⟩⟩
theorem aw_len : awX.length = 18 := by decide +kernel
theorem K2_N : K2.N = 18 := by decide +kernel
theorem aw_sw (k : Nat) (hk : k < 3) : (swRun K2 awX (sw0 3) k).2.pc ≤ 1 ∧ ((swRun K2 awX (sw0 3) (k + 1)).2.pc = 2 ↔ k + 1 = 3) := by
  have h : k = 0 ∨ k = 1 ∨ k = 2 := by omega
  rcases h with rfl | rfl | rfl <;> decide +kernel
theorem aw_gone : (swRun K2 awX (sw0 3) 3).2.gone = 1 := by decide +kernel
theorem aw_re (k : Nat) (hk : k < 7) : (reRun K2 (swRun K2 awX (sw0 3) 3).1 re0 k).2.pc ≤ 1 ∧ ((reRun K2 (swRun K2 awX (sw0 3) 3).1 re0 (k + 1)).2.pc = 2 ↔ k + 1 = 7) := by
  have h : k = 0 ∨ k = 1 ∨ k = 2 ∨ k = 3 ∨ k = 4 ∨ k = 5 ∨ k = 6 := by omega
  rcases h with rfl | rfl | rfl | rfl | rfl | rfl | rfl <;> decide +kernel
theorem aw_back : (reRun K2 (swRun K2 awX (sw0 3) 3).1 re0 7).2.back = 1 ∧ (reRun K2 (swRun K2 awX (sw0 3) 3).1 re0 7).2.gone = 0 := by decide +kernel

theorem sw0_ok {K : Cf} (hK : K.Ok) {e : Nat} (he : e < 18446744073709551616) : (sw0 e).Ok K := ⟨he, by show 0 ≤ 2; omega, fun _ => hK.s1, by show 0 < _; omega, by show 0 ≤ _; omega⟩
theorem re0_ok {K : Cf} (hK : K.Ok) : re0.Ok K := ⟨by show 0 ≤ 2; omega, fun _ => hK.s1, Nat.le_refl _, Nat.le_refl _, fun h => by cases h⟩
theorem sw0_at (K : Cf) (e : Nat) : SwAt #[.int .i64 0, .int .i64 (K.S : Nat), .int .i64 K.a, .int .i64 (K.C : Nat), .int .i64 (K.D : Nat), .int .i64 K.g, .int .i64 K.k, .int .u64 (e : Nat), .int .i64 0, .int .i64 0, .int .u64 0, .int .u64 0] 0 K (sw0 e) := ⟨rfl, rfl, rfl, rfl, rfl, rfl, rfl, rfl, rfl, rfl, rfl, rfl⟩
theorem re0_at (K : Cf) : ReAt #[.int .i64 0, .int .i64 0, .int .i64 (K.S : Nat), .int .i64 K.a, .int .i64 (K.C : Nat), .int .i64 (K.D : Nat), .int .i64 K.g, .int .i64 K.k, .int .i64 0, .int .i64 0, .bool false, .bool false, .int .i64 0, .int .i64 0, .int .i64 0, .int .i64 0, .int .i64 0, .int .i64 0, .int .i64 0, .int .i64 0, .int .i64 0, .int .i64 0, .int .u64 0, .int .i64 0, .int .u64 0] 0 K re0 :=
  ⟨rfl, rfl, rfl, rfl, rfl, rfl, rfl, rfl, rfl, rfl, ⟨_, _, _, _, _, _, _, _, _, _, _, _, _, _, _, rfl, rfl, rfl, rfl, rfl, rfl, rfl, rfl, rfl, rfl, rfl, rfl, rfl, rfl, rfl⟩, fun h => by cases h⟩
/-- A machine in a block of its own, and a memory, as a step finds them. -/
theorem inA_new {w : World} {M G N P : Nat} {X : List Nat} {T : Int} {c : Array Value} {t : TypeId} (hm : MemX w M G X T) (hw : WT w) (hl : X.length = N) (hT : 0 ≤ T ∧ T < 4611686018427387904) (hb : w.heap[P]? = some (.cells c t (0, 0))) (hP : P ≠ M ∧ P ≠ G) (h0 : 0 < P ∧ 0 < M ∧ 0 < G) : InA w w M G N X T P c t :=
  ⟨hm, hw, hl, hT, hb, Chg.refl _ _, hP, h0⟩
theorem swI_new {w : World} {K : Cf} (hK : K.Ok) {M G P : Nat} {X : List Nat} {T0 e : Nat} (he : e < 18446744073709551616) (hm : MemX w M G X (T0 : Int)) (hw : WT w) (hl : X.length = K.N) (hT : T0 < 2305843009213693952) (hb : w.heap[P]? = some (.cells #[.int .i64 0, .int .i64 (K.S : Nat), .int .i64 K.a, .int .i64 (K.C : Nat), .int .i64 (K.D : Nat), .int .i64 K.g, .int .i64 K.k, .int .u64 (e : Nat), .int .i64 0, .int .i64 0, .int .u64 0, .int .u64 0] 49 (0, 0))) (hP : P ≠ M ∧ P ≠ G) (h0 : 0 < P ∧ 0 < M ∧ 0 < G) : SwI w K M G P X (sw0 e) T0 0 w :=
  ⟨_, inA_new hm hw hl (by omega) hb hP h0, sw0_at K e, sw0_ok hK he, Nat.le_refl _⟩
theorem reI_new {w : World} {K : Cf} (hK : K.Ok) {M G P : Nat} {X : List Nat} {T0 : Nat} (hm : MemX w M G X (T0 : Int)) (hw : WT w) (hl : X.length = K.N) (hT : T0 < 2305843009213693952) (hb : w.heap[P]? = some (.cells #[.int .i64 0, .int .i64 0, .int .i64 (K.S : Nat), .int .i64 K.a, .int .i64 (K.C : Nat), .int .i64 (K.D : Nat), .int .i64 K.g, .int .i64 K.k, .int .i64 0, .int .i64 0, .bool false, .bool false, .int .i64 0, .int .i64 0, .int .i64 0, .int .i64 0, .int .i64 0, .int .i64 0, .int .i64 0, .int .i64 0, .int .i64 0, .int .i64 0, .int .u64 0, .int .i64 0, .int .u64 0] 63 (0, 0))) (hP : P ≠ M ∧ P ≠ G) (h0 : 0 < P ∧ 0 < M ∧ 0 < G) : ReI w K M G P X re0 T0 0 w :=
  ⟨_, inA_new hm hw hl (by omega) hb hP h0, re0_at K, re0_ok hK⟩
end Go.Proofs.YteechgmjaagbmabDoor
