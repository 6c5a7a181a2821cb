/- Acts that are played with raw handles. -/
import Derived.Test.YtcccmmhpingmnaaVFb
import Derived.Laws.Concat
namespace Go.Proofs.Ytcccmmhpingmnaa
open Go.RowKit
set_option linter.unusedSimpArgs false
set_option linter.unusedVariables false

/-- An act that came in. -/
structure At where
  cl : Int
  kd : Int
  nn : Int
  h : Int
  x : Int
  y : Int
  hw : Int
  er : Int
  ah : Nat
  ay : Bool
def At.row (a : At) : Array Value := #[.int .i64 a.cl, .int .i64 a.kd, .int .i64 a.nn, .int .i64 a.h, .int .i64 a.x, .int .i64 a.y, .int .i64 a.hw, .int .i64 a.er, .int .u64 (a.ah : Nat), .bool a.ay]
def RdAt (w : World) (ad : Option Addr) (A : List At) : Prop :=
  ∀ (i : Nat) a, A[i]? = some a → ∃ b off, ad = some ⟨b, off, none⟩ ∧ b < w.heap.size ∧ ∀ k, k < 10 → w.cell? ⟨b, off + i * 10 + k, none⟩ = a.row[k]?
theorem RdAt.kept {w w' : World} {ad : Option Addr} {A : List At} (h : RdAt w ad A) (hs : w.heap.size ≤ w'.heap.size) (st : ∀ a, ad = some a → a.block < w.heap.size → w'.heap[a.block]? = w.heap[a.block]?) : RdAt w' ad A := fun i a hi => by
  obtain ⟨g, off, h1, h2, h3⟩ := h i a hi
  exact ⟨g, off, h1, Nat.lt_of_lt_of_le h2 hs, fun k hk => (World.cell?_of_block (a := ⟨g, off + i * 10 + k, none⟩) (show w'.heap[g]? = w.heap[g]? from st _ h1 h2)).trans (h3 k hk)⟩
/-- A raw handle's word. -/
def uN (z : Int) : Nat := ((1000 + z) % 18446744073709551616).toNat
theorem uN_lt (z : Int) : uN z < 18446744073709551616 := by unfold uN; omega
theorem uN_eq (z : Int) : IntKind.u64.wrap (IntKind.i64.wrap (1000 + z)) = (uN z : Nat) := by
  rw [IntKind.wrap_u64, IntKind.wrap_i64]
  unfold uN
  omega
theorem size_app (a b : ByteArray) : (a ++ b).size = a.size + b.size := ByteArray.size_append
/-- Whether an act's answer bears a handle. -/
def hB (kd : Int) : Bool := decide (kd = 1) || decide (kd = 2) || decide (kd = 8) || decide (kd = 9)
def stepP (C : Cg) (X : Sx) (k : Nat) (a : At) : Option Sx := dsO C X a.cl a.kd a.nn (uN a.h) (uN a.x) (uN a.y) 0 (if hB a.kd = true then 1000 + k else 0) false
def playsF (C : Cg) : List At → Nat → Sx → ByteArray → Sx × ByteArray
  | [], _, X, s => (X, s)
  | a :: l, k, X, s => playsF C l (k + 1) ((stepP C X k a).getD X) (s ++ if (stepP C X k a).isSome then ⟨#[121]⟩ else ⟨#[110]⟩)

set_option maxRecDepth 100000 in
set_option maxHeartbeats 4000000 in
theorem plays_any {w : World} {B : Nat} {L : Nat → Prop} {C : Cg} {n : Nat} {X : Sx} (h : IsM w B L C n X) (hL : ∀ i, L i → i < w.heap.size) {N : Nat} (iv : X.Inv N) {A : List At} (hN : N + A.length < 1000000) (hn : n + 2 * A.length < 1000000) (hCa : C.a ≤ 8) {ad : Option Addr} (cap : Nat) (hA : RdAt w ad A) (hd : A ≠ [] → ∀ a, ad = some a → ¬ L a.block) :
    Calls Try.prog 24 #[.pointer (some ⟨B, 0, none⟩), .slice ad A.length cap] w fun r w' => r = .returned (.string (playsF C A 0 X ⟨#[]⟩).2) ∧ IsM w' B (Lup L w w') C (n + 2 * A.length) (playsF C A 0 X ⟨#[]⟩).1 ∧ (playsF C A 0 X ⟨#[]⟩).1.Inv (N + A.length) ∧ Chg L w w' := by
  obtain ⟨lA, hlA⟩ : ∃ lA, A.length = lA := ⟨_, rfl⟩
  rw [hlA] at hN hn ⊢
  replace hlA := hid1 hlA
  obtain ⟨R, hR⟩ : ∃ R, playsF C A 0 X ⟨#[]⟩ = R := ⟨_, rfl⟩
  rw [hR]
  replace hR := hid1 hR
  have h0 : Hid (IsM w B (Lup L w w) C (n + 2 * 0) X ∧ X.Inv (N + 0) ∧ Chg L w w ∧ playsF C (A.drop 0) 0 X ⟨#[]⟩ = R) := hid1 ⟨h.up fun _ q => .inl q, iv, Chg.refl _ _, hR.out⟩
  replace hL := hid1 hL
  replace hA := hid1 hA
  replace hd := hid1 hd
  clear h iv hR
  go_enter Try.func24, Try.ntmps24
  go_upto_region 3 with fail
  go_loopg [5, 6] lA (fun g1 vs vi wr => ∃ (k : Nat) (s : ByteArray) (X' : Sx), vi = .int .i64 k ∧ vs = .string s ∧ k ≤ lA ∧ lA - k ≤ g1 ∧ s.size = k ∧ Hid (IsM wr B (Lup L w wr) C (n + 2 * k) X' ∧ X'.Inv (N + k) ∧ Chg L w wr ∧ playsF C (A.drop k) k X' s = R))
  case atStart => exact ⟨0, _, X, rfl, rfl, Nat.zero_le _, by omega, rfl, h0⟩
  case round =>
    clear h0
    obtain ⟨k, s, X', rfl, rfl, hk, hg1, hss, I⟩ := hrel
    by_cases hl : k < lA
    · have hlz : (k : Int) < (lA : Int) := by omega
      have hkz : (0 : Int) ≤ (k : Int) := by omega
      obtain ⟨a, ha⟩ : ∃ a, A[k]? = some a := ⟨_, List.getElem?_eq_getElem (by have := hlA.out; omega)⟩
      obtain ⟨b, off, had, hb, hcell⟩ := hA.out k a ha
      subst had
      have hbL := hd.out (by rintro rfl; simp at ha) _ rfl
      have hc : ∀ wx : World, wx.heap[b]? = w.heap[b]? → ∀ q, q < 10 → wx.cell? ⟨b, off + k * 10 + q, none⟩ = a.row[q]? := fun wx e q hq => (World.cell?_of_block (a := ⟨b, off + k * 10 + q, none⟩) e).trans (hcell q hq)
      have hc6 : ∀ wx : World, wx.heap[b]? = w.heap[b]? → wx.cell? ⟨b, off + k * 10, none⟩ = some (.int .i64 a.cl) ∧ wx.cell? ⟨b, off + k * 10 + 1, none⟩ = some (.int .i64 a.kd) ∧ wx.cell? ⟨b, off + k * 10 + 2, none⟩ = some (.int .i64 a.nn) ∧ wx.cell? ⟨b, off + k * 10 + 3, none⟩ = some (.int .i64 a.h) ∧ wx.cell? ⟨b, off + k * 10 + 4, none⟩ = some (.int .i64 a.x) ∧ wx.cell? ⟨b, off + k * 10 + 5, none⟩ = some (.int .i64 a.y) := fun wx e =>
        ⟨hc wx e 0 (by decide), hc wx e 1 (by decide), hc wx e 2 (by decide), hc wx e 3 (by decide), hc wx e 4 (by decide), hc wx e 5 (by decide)⟩
      have ec : wr.heap[b]? = w.heap[b]? := I.out.2.2.1.block b hb hbL
      have uh := uN_eq a.h
      have ux := uN_eq a.x
      have uy := uN_eq a.y
      clear hc hcell
      replace hc6 := hid1 hc6
      go_upto_region 5 with fail
      refine wp_region_held_drew (S := fun wx => wx.heap[b]? = w.heap[b]?) (by kernel_rfl) ec (fun hS1 => ?_)
      refine wpAnyH_take (i := 0) (oi := { dst := some 15, op := Go.Op.move (Go.Operand.tmp 1), type := 22, pos := "law.go:233", after := #[], guard := none }) (v := .slice (some ⟨b, off, none⟩) lA cap) rfl (by kernel_rfl) (by kernel_rfl) (by kernel_rfl) (fun _ _ _ h => h) (Or.inl ⟨by rfl, fun w hSw => by (try dsimp only at hSw); go_simp⟩) hS1 ?_
      simp only [Act.put, List.setIfInBounds_toArray, List.set_cons_zero, List.set_cons_succ]
      refine wpAnyH_take (i := 1) (oi := { dst := some 16, op := Go.Op.move (Go.Operand.tmp 6), type := 3, pos := "law.go:233", after := #[], guard := none }) (v := .int .i64 (k : Nat)) rfl (by kernel_rfl) (by kernel_rfl) (by kernel_rfl) (fun _ _ _ h => h) (Or.inl ⟨by rfl, fun w hSw => by (try dsimp only at hSw); go_simp⟩) hS1 ?_
      simp only [Act.put, List.setIfInBounds_toArray, List.set_cons_zero, List.set_cons_succ]
      refine wpAnyH_take (i := 2) (oi := { dst := some 17, op := Go.Op.indexAddr 22 (Go.Operand.tmp 15) (Go.Operand.tmp 16), type := 0, pos := "law.go:233", after := #[{ on := 0, ground := Go.Ground.data }, { on := 1, ground := Go.Ground.data }], guard := none }) (v := .pointer (some ⟨b, off + k * 10, none⟩)) rfl (by kernel_rfl) (by kernel_rfl) (by kernel_rfl) (fun _ _ _ h => h) (Or.inl ⟨by rfl, fun w hSw => by (try dsimp only at hSw); go_simp⟩) hS1 ?_
      simp only [Act.put, List.setIfInBounds_toArray, List.set_cons_zero, List.set_cons_succ]
      refine wpAnyH_take (i := 3) (oi := { dst := some 18, op := Go.Op.fieldAddr 43 (Go.Operand.tmp 17) 1, type := 0, pos := "law.go:233", after := #[{ on := 2, ground := Go.Ground.data }], guard := none }) (v := .pointer (some ⟨b, off + k * 10 + 1, none⟩)) rfl (by kernel_rfl) (by kernel_rfl) (by kernel_rfl) (fun _ _ _ h => h) (Or.inl ⟨by rfl, fun w hSw => by (try dsimp only at hSw); go_simp⟩) hS1 ?_
      simp only [Act.put, List.setIfInBounds_toArray, List.set_cons_zero, List.set_cons_succ]
      refine wpAnyH_take (i := 4) (oi := { dst := some 19, op := Go.Op.load 3 (Go.Operand.tmp 18), type := 3, pos := "law.go:233", after := #[{ on := 3, ground := Go.Ground.data }], guard := none }) (v := .int .i64 a.kd) rfl (by kernel_rfl) (by kernel_rfl) (by kernel_rfl) (fun _ _ _ h => h) (Or.inl ⟨by rfl, fun w hSw => by (try dsimp only at hSw); obtain ⟨c0, c1, c2, c3, c4, c5⟩ := hc6.out w hSw; go_simp⟩) hS1 ?_
      simp only [Act.put, List.setIfInBounds_toArray, List.set_cons_zero, List.set_cons_succ]
      refine wpAnyH_take (i := 5) (oi := { dst := some 20, op := Go.Op.move (Go.Operand.tmp 1), type := 22, pos := "law.go:233", after := #[], guard := none }) (v := .slice (some ⟨b, off, none⟩) lA cap) rfl (by kernel_rfl) (by kernel_rfl) (by kernel_rfl) (fun _ _ _ h => h) (Or.inl ⟨by rfl, fun w hSw => by (try dsimp only at hSw); go_simp⟩) hS1 ?_
      simp only [Act.put, List.setIfInBounds_toArray, List.set_cons_zero, List.set_cons_succ]
      refine wpAnyH_take (i := 6) (oi := { dst := some 21, op := Go.Op.move (Go.Operand.tmp 6), type := 3, pos := "law.go:233", after := #[], guard := none }) (v := .int .i64 (k : Nat)) rfl (by kernel_rfl) (by kernel_rfl) (by kernel_rfl) (fun _ _ _ h => h) (Or.inl ⟨by rfl, fun w hSw => by (try dsimp only at hSw); go_simp⟩) hS1 ?_
      simp only [Act.put, List.setIfInBounds_toArray, List.set_cons_zero, List.set_cons_succ]
      refine wpAnyH_take (i := 7) (oi := { dst := some 22, op := Go.Op.indexAddr 22 (Go.Operand.tmp 20) (Go.Operand.tmp 21), type := 0, pos := "law.go:233", after := #[{ on := 5, ground := Go.Ground.data }, { on := 6, ground := Go.Ground.data }], guard := none }) (v := .pointer (some ⟨b, off + k * 10, none⟩)) rfl (by kernel_rfl) (by kernel_rfl) (by kernel_rfl) (fun _ _ _ h => h) (Or.inl ⟨by rfl, fun w hSw => by (try dsimp only at hSw); go_simp⟩) hS1 ?_
      simp only [Act.put, List.setIfInBounds_toArray, List.set_cons_zero, List.set_cons_succ]
      refine wpAnyH_take (i := 8) (oi := { dst := some 23, op := Go.Op.fieldAddr 43 (Go.Operand.tmp 22) 2, type := 0, pos := "law.go:233", after := #[{ on := 7, ground := Go.Ground.data }], guard := none }) (v := .pointer (some ⟨b, off + k * 10 + 2, none⟩)) rfl (by kernel_rfl) (by kernel_rfl) (by kernel_rfl) (fun _ _ _ h => h) (Or.inl ⟨by rfl, fun w hSw => by (try dsimp only at hSw); go_simp⟩) hS1 ?_
      simp only [Act.put, List.setIfInBounds_toArray, List.set_cons_zero, List.set_cons_succ]
      refine wpAnyH_take (i := 9) (oi := { dst := some 24, op := Go.Op.load 3 (Go.Operand.tmp 23), type := 3, pos := "law.go:233", after := #[{ on := 8, ground := Go.Ground.data }], guard := none }) (v := .int .i64 a.nn) rfl (by kernel_rfl) (by kernel_rfl) (by kernel_rfl) (fun _ _ _ h => h) (Or.inl ⟨by rfl, fun w hSw => by (try dsimp only at hSw); obtain ⟨c0, c1, c2, c3, c4, c5⟩ := hc6.out w hSw; go_simp⟩) hS1 ?_
      simp only [Act.put, List.setIfInBounds_toArray, List.set_cons_zero, List.set_cons_succ]
      refine wpAnyH_take (i := 10) (oi := { dst := some 25, op := Go.Op.move (Go.Operand.tmp 1), type := 22, pos := "law.go:233", after := #[], guard := none }) (v := .slice (some ⟨b, off, none⟩) lA cap) rfl (by kernel_rfl) (by kernel_rfl) (by kernel_rfl) (fun _ _ _ h => h) (Or.inl ⟨by rfl, fun w hSw => by (try dsimp only at hSw); go_simp⟩) hS1 ?_
      simp only [Act.put, List.setIfInBounds_toArray, List.set_cons_zero, List.set_cons_succ]
      refine wpAnyH_take (i := 11) (oi := { dst := some 26, op := Go.Op.move (Go.Operand.tmp 6), type := 3, pos := "law.go:233", after := #[], guard := none }) (v := .int .i64 (k : Nat)) rfl (by kernel_rfl) (by kernel_rfl) (by kernel_rfl) (fun _ _ _ h => h) (Or.inl ⟨by rfl, fun w hSw => by (try dsimp only at hSw); go_simp⟩) hS1 ?_
      simp only [Act.put, List.setIfInBounds_toArray, List.set_cons_zero, List.set_cons_succ]
      refine wpAnyH_take (i := 12) (oi := { dst := some 27, op := Go.Op.indexAddr 22 (Go.Operand.tmp 25) (Go.Operand.tmp 26), type := 0, pos := "law.go:233", after := #[{ on := 10, ground := Go.Ground.data }, { on := 11, ground := Go.Ground.data }], guard := none }) (v := .pointer (some ⟨b, off + k * 10, none⟩)) rfl (by kernel_rfl) (by kernel_rfl) (by kernel_rfl) (fun _ _ _ h => h) (Or.inl ⟨by rfl, fun w hSw => by (try dsimp only at hSw); go_simp⟩) hS1 ?_
      simp only [Act.put, List.setIfInBounds_toArray, List.set_cons_zero, List.set_cons_succ]
      refine wpAnyH_take (i := 13) (oi := { dst := some 28, op := Go.Op.fieldAddr 43 (Go.Operand.tmp 27) 3, type := 0, pos := "law.go:233", after := #[{ on := 12, ground := Go.Ground.data }], guard := none }) (v := .pointer (some ⟨b, off + k * 10 + 3, none⟩)) rfl (by kernel_rfl) (by kernel_rfl) (by kernel_rfl) (fun _ _ _ h => h) (Or.inl ⟨by rfl, fun w hSw => by (try dsimp only at hSw); go_simp⟩) hS1 ?_
      simp only [Act.put, List.setIfInBounds_toArray, List.set_cons_zero, List.set_cons_succ]
      refine wpAnyH_take (i := 14) (oi := { dst := some 29, op := Go.Op.load 3 (Go.Operand.tmp 28), type := 3, pos := "law.go:233", after := #[{ on := 13, ground := Go.Ground.data }], guard := none }) (v := .int .i64 a.h) rfl (by kernel_rfl) (by kernel_rfl) (by kernel_rfl) (fun _ _ _ h => h) (Or.inl ⟨by rfl, fun w hSw => by (try dsimp only at hSw); obtain ⟨c0, c1, c2, c3, c4, c5⟩ := hc6.out w hSw; go_simp⟩) hS1 ?_
      simp only [Act.put, List.setIfInBounds_toArray, List.set_cons_zero, List.set_cons_succ]
      refine wpAnyH_take (i := 15) (oi := { dst := some 30, op := Go.Op.binOp Go.BinOp.add 3 (Go.Operand.const (Go.Value.int Go.IntKind.i64 1000)) (Go.Operand.tmp 29) 3, type := 3, pos := "law.go:233", after := #[{ on := 14, ground := Go.Ground.data }], guard := none }) (v := .int .i64 (IntKind.i64.wrap (1000 + a.h))) rfl (by kernel_rfl) (by kernel_rfl) (by kernel_rfl) (fun _ _ _ h => h) (Or.inl ⟨by rfl, fun w hSw => by (try dsimp only at hSw); go_simp⟩) hS1 ?_
      simp only [Act.put, List.setIfInBounds_toArray, List.set_cons_zero, List.set_cons_succ]
      refine wpAnyH_take (i := 16) (oi := { dst := some 31, op := Go.Op.convert 3 35 (Go.Operand.tmp 30), type := 35, pos := "law.go:233", after := #[{ on := 15, ground := Go.Ground.data }], guard := none }) (v := .int .u64 (uN a.h : Nat)) rfl (by kernel_rfl) (by kernel_rfl) (by kernel_rfl) (fun _ _ _ h => h) (Or.inl ⟨by rfl, fun w hSw => by (try dsimp only at hSw); go_simp⟩) hS1 ?_
      simp only [Act.put, List.setIfInBounds_toArray, List.set_cons_zero, List.set_cons_succ]
      refine wpAnyH_take (i := 17) (oi := { dst := some 32, op := Go.Op.move (Go.Operand.tmp 1), type := 22, pos := "law.go:233", after := #[], guard := none }) (v := .slice (some ⟨b, off, none⟩) lA cap) rfl (by kernel_rfl) (by kernel_rfl) (by kernel_rfl) (fun _ _ _ h => h) (Or.inl ⟨by rfl, fun w hSw => by (try dsimp only at hSw); go_simp⟩) hS1 ?_
      simp only [Act.put, List.setIfInBounds_toArray, List.set_cons_zero, List.set_cons_succ]
      refine wpAnyH_take (i := 18) (oi := { dst := some 33, op := Go.Op.move (Go.Operand.tmp 6), type := 3, pos := "law.go:233", after := #[], guard := none }) (v := .int .i64 (k : Nat)) rfl (by kernel_rfl) (by kernel_rfl) (by kernel_rfl) (fun _ _ _ h => h) (Or.inl ⟨by rfl, fun w hSw => by (try dsimp only at hSw); go_simp⟩) hS1 ?_
      simp only [Act.put, List.setIfInBounds_toArray, List.set_cons_zero, List.set_cons_succ]
      refine wpAnyH_take (i := 19) (oi := { dst := some 34, op := Go.Op.indexAddr 22 (Go.Operand.tmp 32) (Go.Operand.tmp 33), type := 0, pos := "law.go:233", after := #[{ on := 17, ground := Go.Ground.data }, { on := 18, ground := Go.Ground.data }], guard := none }) (v := .pointer (some ⟨b, off + k * 10, none⟩)) rfl (by kernel_rfl) (by kernel_rfl) (by kernel_rfl) (fun _ _ _ h => h) (Or.inl ⟨by rfl, fun w hSw => by (try dsimp only at hSw); go_simp⟩) hS1 ?_
      simp only [Act.put, List.setIfInBounds_toArray, List.set_cons_zero, List.set_cons_succ]
      refine wpAnyH_take (i := 20) (oi := { dst := some 35, op := Go.Op.fieldAddr 43 (Go.Operand.tmp 34) 4, type := 0, pos := "law.go:233", after := #[{ on := 19, ground := Go.Ground.data }], guard := none }) (v := .pointer (some ⟨b, off + k * 10 + 4, none⟩)) rfl (by kernel_rfl) (by kernel_rfl) (by kernel_rfl) (fun _ _ _ h => h) (Or.inl ⟨by rfl, fun w hSw => by (try dsimp only at hSw); go_simp⟩) hS1 ?_
      simp only [Act.put, List.setIfInBounds_toArray, List.set_cons_zero, List.set_cons_succ]
      refine wpAnyH_take (i := 21) (oi := { dst := some 36, op := Go.Op.load 3 (Go.Operand.tmp 35), type := 3, pos := "law.go:233", after := #[{ on := 20, ground := Go.Ground.data }], guard := none }) (v := .int .i64 a.x) rfl (by kernel_rfl) (by kernel_rfl) (by kernel_rfl) (fun _ _ _ h => h) (Or.inl ⟨by rfl, fun w hSw => by (try dsimp only at hSw); obtain ⟨c0, c1, c2, c3, c4, c5⟩ := hc6.out w hSw; go_simp⟩) hS1 ?_
      simp only [Act.put, List.setIfInBounds_toArray, List.set_cons_zero, List.set_cons_succ]
      refine wpAnyH_take (i := 22) (oi := { dst := some 37, op := Go.Op.binOp Go.BinOp.add 3 (Go.Operand.const (Go.Value.int Go.IntKind.i64 1000)) (Go.Operand.tmp 36) 3, type := 3, pos := "law.go:233", after := #[{ on := 21, ground := Go.Ground.data }], guard := none }) (v := .int .i64 (IntKind.i64.wrap (1000 + a.x))) rfl (by kernel_rfl) (by kernel_rfl) (by kernel_rfl) (fun _ _ _ h => h) (Or.inl ⟨by rfl, fun w hSw => by (try dsimp only at hSw); go_simp⟩) hS1 ?_
      simp only [Act.put, List.setIfInBounds_toArray, List.set_cons_zero, List.set_cons_succ]
      refine wpAnyH_take (i := 23) (oi := { dst := some 38, op := Go.Op.convert 3 35 (Go.Operand.tmp 37), type := 35, pos := "law.go:233", after := #[{ on := 22, ground := Go.Ground.data }], guard := none }) (v := .int .u64 (uN a.x : Nat)) rfl (by kernel_rfl) (by kernel_rfl) (by kernel_rfl) (fun _ _ _ h => h) (Or.inl ⟨by rfl, fun w hSw => by (try dsimp only at hSw); go_simp⟩) hS1 ?_
      simp only [Act.put, List.setIfInBounds_toArray, List.set_cons_zero, List.set_cons_succ]
      refine wpAnyH_take (i := 24) (oi := { dst := some 39, op := Go.Op.move (Go.Operand.tmp 1), type := 22, pos := "law.go:233", after := #[], guard := none }) (v := .slice (some ⟨b, off, none⟩) lA cap) rfl (by kernel_rfl) (by kernel_rfl) (by kernel_rfl) (fun _ _ _ h => h) (Or.inl ⟨by rfl, fun w hSw => by (try dsimp only at hSw); go_simp⟩) hS1 ?_
      simp only [Act.put, List.setIfInBounds_toArray, List.set_cons_zero, List.set_cons_succ]
      refine wpAnyH_take (i := 25) (oi := { dst := some 40, op := Go.Op.move (Go.Operand.tmp 6), type := 3, pos := "law.go:233", after := #[], guard := none }) (v := .int .i64 (k : Nat)) rfl (by kernel_rfl) (by kernel_rfl) (by kernel_rfl) (fun _ _ _ h => h) (Or.inl ⟨by rfl, fun w hSw => by (try dsimp only at hSw); go_simp⟩) hS1 ?_
      simp only [Act.put, List.setIfInBounds_toArray, List.set_cons_zero, List.set_cons_succ]
      refine wpAnyH_take (i := 26) (oi := { dst := some 41, op := Go.Op.indexAddr 22 (Go.Operand.tmp 39) (Go.Operand.tmp 40), type := 0, pos := "law.go:233", after := #[{ on := 24, ground := Go.Ground.data }, { on := 25, ground := Go.Ground.data }], guard := none }) (v := .pointer (some ⟨b, off + k * 10, none⟩)) rfl (by kernel_rfl) (by kernel_rfl) (by kernel_rfl) (fun _ _ _ h => h) (Or.inl ⟨by rfl, fun w hSw => by (try dsimp only at hSw); go_simp⟩) hS1 ?_
      simp only [Act.put, List.setIfInBounds_toArray, List.set_cons_zero, List.set_cons_succ]
      refine wpAnyH_take (i := 27) (oi := { dst := some 42, op := Go.Op.fieldAddr 43 (Go.Operand.tmp 41) 5, type := 0, pos := "law.go:233", after := #[{ on := 26, ground := Go.Ground.data }], guard := none }) (v := .pointer (some ⟨b, off + k * 10 + 5, none⟩)) rfl (by kernel_rfl) (by kernel_rfl) (by kernel_rfl) (fun _ _ _ h => h) (Or.inl ⟨by rfl, fun w hSw => by (try dsimp only at hSw); go_simp⟩) hS1 ?_
      simp only [Act.put, List.setIfInBounds_toArray, List.set_cons_zero, List.set_cons_succ]
      refine wpAnyH_take (i := 28) (oi := { dst := some 43, op := Go.Op.load 3 (Go.Operand.tmp 42), type := 3, pos := "law.go:233", after := #[{ on := 27, ground := Go.Ground.data }], guard := none }) (v := .int .i64 a.y) rfl (by kernel_rfl) (by kernel_rfl) (by kernel_rfl) (fun _ _ _ h => h) (Or.inl ⟨by rfl, fun w hSw => by (try dsimp only at hSw); obtain ⟨c0, c1, c2, c3, c4, c5⟩ := hc6.out w hSw; go_simp⟩) hS1 ?_
      simp only [Act.put, List.setIfInBounds_toArray, List.set_cons_zero, List.set_cons_succ]
      refine wpAnyH_take (i := 29) (oi := { dst := some 44, op := Go.Op.binOp Go.BinOp.add 3 (Go.Operand.const (Go.Value.int Go.IntKind.i64 1000)) (Go.Operand.tmp 43) 3, type := 3, pos := "law.go:233", after := #[{ on := 28, ground := Go.Ground.data }], guard := none }) (v := .int .i64 (IntKind.i64.wrap (1000 + a.y))) rfl (by kernel_rfl) (by kernel_rfl) (by kernel_rfl) (fun _ _ _ h => h) (Or.inl ⟨by rfl, fun w hSw => by (try dsimp only at hSw); go_simp⟩) hS1 ?_
      simp only [Act.put, List.setIfInBounds_toArray, List.set_cons_zero, List.set_cons_succ]
      refine wpAnyH_take (i := 30) (oi := { dst := some 45, op := Go.Op.convert 3 35 (Go.Operand.tmp 44), type := 35, pos := "law.go:233", after := #[{ on := 29, ground := Go.Ground.data }], guard := none }) (v := .int .u64 (uN a.y : Nat)) rfl (by kernel_rfl) (by kernel_rfl) (by kernel_rfl) (fun _ _ _ h => h) (Or.inl ⟨by rfl, fun w hSw => by (try dsimp only at hSw); go_simp⟩) hS1 ?_
      simp only [Act.put, List.setIfInBounds_toArray, List.set_cons_zero, List.set_cons_succ]
      refine wpAnyH_take (i := 31) (oi := { dst := some 46, op := Go.Op.build 37 #[(0, Go.Operand.tmp 19), (1, Go.Operand.tmp 24), (2, Go.Operand.tmp 31), (3, Go.Operand.tmp 38), (4, Go.Operand.tmp 45)], type := 37, pos := "law.go:233", after := #[{ on := 4, ground := Go.Ground.data }, { on := 9, ground := Go.Ground.data }, { on := 16, ground := Go.Ground.data }, { on := 23, ground := Go.Ground.data }, { on := 30, ground := Go.Ground.data }], guard := none }) (v := .agg #[.int .i64 a.kd, .int .i64 a.nn, .int .u64 (uN a.h : Nat), .int .u64 (uN a.x : Nat), .int .u64 (uN a.y : Nat)]) rfl (by kernel_rfl) (by kernel_rfl) (by kernel_rfl) (fun _ _ _ h => h) (Or.inl ⟨by rfl, fun w hSw => by (try dsimp only at hSw); go_simp⟩) hS1 ?_
      simp only [Act.put, List.setIfInBounds_toArray, List.set_cons_zero, List.set_cons_succ]
      refine wpAnyH_ready (rs := [32]) (by kernel_rfl) (by simp) (AllReadyH.cons (o := { dst := some 7, op := Go.Op.alloc 37, type := 0, pos := "law.go:233", after := #[], guard := none }) rfl (fun K hK => ?_) AllReadyH.nil)
      go_simp
      have b2 := (alloc_below wr (.cells #[.int .i64 0, .int .i64 0, .int .u64 0, .int .u64 0, .int .u64 0] 37)).drew
      have hq2 : (wr.alloc (.cells #[.int .i64 0, .int .i64 0, .int .u64 0, .int .u64 0, .int .u64 0] 37)).drew.heap[wr.heap.size]? = _ := new_obj wr (.cells #[.int .i64 0, .int .i64 0, .int .u64 0, .int .u64 0, .int .u64 0] 37)
      have hbr := Nat.lt_of_lt_of_le hb I.out.2.2.1.size
      have ec2 := (b2.block _ hbr).trans ec
      refine hK.out _ _ ec2 (fun hS1 => ?_)
      (try simp only [Act.put, List.setIfInBounds_toArray, List.set_cons_zero, List.set_cons_succ])
      clear hK K
      generalize World.drew _ = w2 at b2 hq2 ec2 ⊢
      obtain ⟨bq, hbq⟩ : ∃ bq, wr.heap.size = bq := ⟨_, rfl⟩
      rw [hbq] at hq2
      rw [hbq]
      have nbq : b ≠ bq := by omega
      have hqw : w.heap.size ≤ bq := hbq ▸ I.out.2.2.1.size
      refine wpAnyH_ready (rs := [33]) (by kernel_rfl) (by simp) (AllReadyH.cons (o := { dst := none, op := Go.Op.store 37 (Go.Operand.tmp 7) (Go.Operand.tmp 46), type := 0, pos := "law.go:233", after := #[{ on := 32, ground := Go.Ground.data }, { on := 31, ground := Go.Ground.data }, { on := 0, ground := Go.Ground.phase }, { on := 1, ground := Go.Ground.phase }, { on := 2, ground := Go.Ground.phase }, { on := 3, ground := Go.Ground.phase }, { on := 4, ground := Go.Ground.phase }, { on := 5, ground := Go.Ground.phase }, { on := 6, ground := Go.Ground.phase }, { on := 7, ground := Go.Ground.phase }, { on := 8, ground := Go.Ground.phase }, { on := 9, ground := Go.Ground.phase }, { on := 10, ground := Go.Ground.phase }, { on := 11, ground := Go.Ground.phase }, { on := 12, ground := Go.Ground.phase }, { on := 13, ground := Go.Ground.phase }, { on := 14, ground := Go.Ground.phase }, { on := 15, ground := Go.Ground.phase }, { on := 16, ground := Go.Ground.phase }, { on := 17, ground := Go.Ground.phase }, { on := 18, ground := Go.Ground.phase }, { on := 19, ground := Go.Ground.phase }, { on := 20, ground := Go.Ground.phase }, { on := 21, ground := Go.Ground.phase }, { on := 22, ground := Go.Ground.phase }, { on := 23, ground := Go.Ground.phase }, { on := 24, ground := Go.Ground.phase }, { on := 25, ground := Go.Ground.phase }, { on := 26, ground := Go.Ground.phase }, { on := 27, ground := Go.Ground.phase }, { on := 28, ground := Go.Ground.phase }, { on := 29, ground := Go.Ground.phase }, { on := 30, ground := Go.Ground.phase }, { on := 31, ground := Go.Ground.phase }, { on := 32, ground := Go.Ground.phase }], guard := none }) rfl (fun K hK => ?_) AllReadyH.nil)
      refine wp_store_row 37 (.tmp 7) (.tmp 46) rfl bq #[.int .i64 a.kd, .int .i64 a.nn, .int .u64 (uN a.h : Nat), .int .u64 (uN a.x : Nat), .int .u64 (uN a.y : Nat)] rfl rfl 37 #[.int .i64 0, .int .i64 0, .int .u64 0, .int .u64 0, .int .u64 0] hq2 (by show _ = some 5; kernel_rfl) rfl (by kernel_rfl) ?_
      have b3 : Below wr.heap.size wr (w2.setRow bq #[.int .i64 a.kd, .int .i64 a.nn, .int .u64 (uN a.h : Nat), .int .u64 (uN a.x : Nat), .int .u64 (uN a.y : Nat)]) := ⟨b2.os, b2.tape, b2.output, by simpa [World.setRow] using b2.size, fun i hi => (setRow_other w2 bq i _ (by omega)).trans (b2.block i hi)⟩
      have hq3 := setRow_heap w2 bq _ #[.int .i64 a.kd, .int .i64 a.nn, .int .u64 (uN a.h : Nat), .int .u64 (uN a.x : Nat), .int .u64 (uN a.y : Nat)] _ _ hq2
      have ec3 := (b3.block _ hbr).trans ec
      refine hK.out _ _ ec3 (fun hS1 => ?_)
      (try simp only [Act.put, List.setIfInBounds_toArray, List.set_cons_zero, List.set_cons_succ])
      clear hK K b2 hq2 ec2
      generalize World.setRow _ _ _ = w3 at b3 hq3 ec3 ⊢
      refine wpAnyH_done (by kernel_rfl) ?_ _
      clear hS1
      have hq3c := call_cells hq3
      obtain ⟨c0, c1, c2, c3, c4⟩ := hq3c
      have ans := new_obj w3 (.cells #[.int .i64 0, .int .u64 0, .bool false] 41)
      go_upto_region 7 with fail
      have b4 := seq_below b3 (alloc_below w3 (.cells #[.int .i64 0, .int .u64 0, .bool false] 41))
      have hq4 := ((alloc_below w3 (.cells #[.int .i64 0, .int .u64 0, .bool false] 41)).block _ (lt_of_block hq3)).trans hq3
      have ec4 := (b4.block _ hbr).trans ec
      obtain ⟨ba, hba0⟩ : ∃ ba, w3.heap.size = ba := ⟨_, rfl⟩
      have hba : wr.heap.size ≤ ba := hba0 ▸ b3.size
      have nba : ba ≠ bq := fun e => by have := lt_of_block hq3; omega
      have ha4 := ans
      rw [hba0] at ha4
      (try rw [hba0])
      generalize World.alloc w3 _ = w4 at b4 hq4 ec4 ha4 ⊢
      clear c0 c1 c2 c3 c4 b3 hq3 ec3 ans
      obtain ⟨c0, c1, c2, c3, c4⟩ := call_cells hq4
      obtain ⟨d0, d1, d2⟩ := ans_cells ha4
      have df := cells_free ha4 1
      by_cases k1 : a.kd = 1
      · have f1 : (a.kd == 1) = true := by simp [k1]
        have hb1 : hB a.kd = true := by unfold hB; simp [k1]
        clear k1
        go_upto_region 9 with fail
        have b5 := b4.setCell (p := ⟨ba, 1, none⟩) hba (.int .u64 (1000 + (k : Int)))
        have ec5 := (b5.block _ hbr).trans ec
        have hq5 := (Below.heap_setCell w4 ⟨ba, 1, none⟩ (.int .u64 (1000 + (k : Int))) bq (fun e => nba e.symm)).trans hq4
        have ha5 := heap_put (o := 1) ha4 (.int .u64 (1000 + (k : Int)))
        replace ha5 : (w4.setCell ⟨ba, 1, none⟩ (.int .u64 (1000 + (k : Int)))).heap[ba]? = some (.cells #[.int .i64 0, .int .u64 (1000 + (k : Int)), .bool false] 41 (0, 0)) := ha5
        generalize World.setCell _ _ _ = w5 at b5 ec5 hq5 ha5 ⊢
        clear b4 ec4 hq4 ha4 d0 d1 d2
        have hds : dsO C X' a.cl a.kd a.nn (uN a.h) (uN a.x) (uN a.y) 0 (1000 + k) false = stepP C X' k a := by unfold stepP; rw [hb1]; rfl
        have hhw : (1000 + k) < 18446744073709551616 := by omega
        have b6 := b5.drew
        have I6 := I.out.1.below b6
        have hL6 : ∀ i, Lup L w wr i → i < w5.drew.heap.size := fun i hi => by
          rcases hi with hi | hi
          · exact Nat.lt_of_lt_of_le (hL.out i hi) (Nat.le_trans I.out.2.2.1.size b6.size)
          · exact Nat.lt_of_lt_of_le hi.2 b6.size
        have cD := does_M I6 hL6 I.out.2.1 (by omega) (by omega) hCa a.cl a.kd a.nn (uN_lt a.h) (uN_lt a.x) (uN_lt a.y) 0 hhw false
        rw [hds, show (((1000 + k : Nat)) : Int) = 1000 + (k : Int) by omega] at cD
        replace cD := hid1 cD
        have hiv := hid1 (inv_get (who := a.cl) (kd := a.kd) (cN := a.nn) (cH := uN a.h) (cX := uN a.x) (cY := uN a.y) (aE := 0) (aY := false) I.out.2.1 (by obtain ⟨m0, h0⟩ := I.out.1; exact h0.nc) hCa hhw)
        have hiv2 : Hid (((stepP C X' k a).getD X').Inv (N + k + 1)) := hid1 (by have := hiv.out; rw [hds] at this; exact this)
        clear hiv hds hL6 I6
        refine wp_region_held_drew (S := fun wx => wx.heap[b]? = w.heap[b]? ∧ wx.heap[bq]? = some (.cells #[.int .i64 a.kd, .int .i64 a.nn, .int .u64 (uN a.h : Nat), .int .u64 (uN a.x : Nat), .int .u64 (uN a.y : Nat)] 37 (0, 0)) ∧ wx.heap[ba]? = some (.cells #[.int .i64 0, .int .u64 (1000 + (k : Int)), .bool false] 41 (0, 0))) (by kernel_rfl) ⟨ec5, hq5, ha5⟩ (fun hS1 => ?_)
        refine wpAnyH_take (i := 0) (oi := { dst := some 70, op := Go.Op.move (Go.Operand.tmp 0), type := 23, pos := "law.go:238", after := #[], guard := none }) (v := .pointer (some ⟨B, 0, none⟩)) rfl (by kernel_rfl) (by kernel_rfl) (by kernel_rfl) (fun _ _ _ h => h) (Or.inl ⟨by rfl, fun w hSw => by (try dsimp only at hSw); go_simp⟩) hS1 ?_
        simp only [Act.put, List.setIfInBounds_toArray, List.set_cons_zero, List.set_cons_succ]
        refine wpAnyH_take (i := 1) (oi := { dst := some 71, op := Go.Op.move (Go.Operand.tmp 1), type := 22, pos := "law.go:238", after := #[], guard := none }) (v := .slice (some ⟨b, off, none⟩) lA cap) rfl (by kernel_rfl) (by kernel_rfl) (by kernel_rfl) (fun _ _ _ h => h) (Or.inl ⟨by rfl, fun w hSw => by (try dsimp only at hSw); go_simp⟩) hS1 ?_
        simp only [Act.put, List.setIfInBounds_toArray, List.set_cons_zero, List.set_cons_succ]
        refine wpAnyH_take (i := 2) (oi := { dst := some 72, op := Go.Op.move (Go.Operand.tmp 6), type := 3, pos := "law.go:238", after := #[], guard := none }) (v := .int .i64 (k : Nat)) rfl (by kernel_rfl) (by kernel_rfl) (by kernel_rfl) (fun _ _ _ h => h) (Or.inl ⟨by rfl, fun w hSw => by (try dsimp only at hSw); go_simp⟩) hS1 ?_
        simp only [Act.put, List.setIfInBounds_toArray, List.set_cons_zero, List.set_cons_succ]
        refine wpAnyH_take (i := 3) (oi := { dst := some 73, op := Go.Op.indexAddr 22 (Go.Operand.tmp 71) (Go.Operand.tmp 72), type := 0, pos := "law.go:238", after := #[{ on := 1, ground := Go.Ground.data }, { on := 2, ground := Go.Ground.data }], guard := none }) (v := .pointer (some ⟨b, off + k * 10, none⟩)) rfl (by kernel_rfl) (by kernel_rfl) (by kernel_rfl) (fun _ _ _ h => h) (Or.inl ⟨by rfl, fun w hSw => by (try dsimp only at hSw); go_simp⟩) hS1 ?_
        simp only [Act.put, List.setIfInBounds_toArray, List.set_cons_zero, List.set_cons_succ]
        refine wpAnyH_take (i := 4) (oi := { dst := some 74, op := Go.Op.fieldAddr 43 (Go.Operand.tmp 73) 0, type := 0, pos := "law.go:238", after := #[{ on := 3, ground := Go.Ground.data }], guard := none }) (v := .pointer (some ⟨b, off + k * 10, none⟩)) rfl (by kernel_rfl) (by kernel_rfl) (by kernel_rfl) (fun _ _ _ h => h) (Or.inl ⟨by rfl, fun w hSw => by (try dsimp only at hSw); go_simp⟩) hS1 ?_
        simp only [Act.put, List.setIfInBounds_toArray, List.set_cons_zero, List.set_cons_succ]
        refine wpAnyH_take (i := 5) (oi := { dst := some 75, op := Go.Op.load 3 (Go.Operand.tmp 74), type := 3, pos := "law.go:238", after := #[{ on := 4, ground := Go.Ground.data }], guard := none }) (v := .int .i64 a.cl) rfl (by kernel_rfl) (by kernel_rfl) (by kernel_rfl) (fun _ _ _ h => h) (Or.inl ⟨by rfl, fun w hSw => by (try dsimp only at hSw); obtain ⟨y0, y1, y2⟩ := hSw; obtain ⟨c0, c1, c2, c3, c4, c5⟩ := hc6.out w y0; go_simp⟩) hS1 ?_
        simp only [Act.put, List.setIfInBounds_toArray, List.set_cons_zero, List.set_cons_succ]
        refine wpAnyH_take (i := 6) (oi := { dst := some 76, op := Go.Op.load 37 (Go.Operand.tmp 7), type := 37, pos := "law.go:238", after := #[], guard := none }) (v := .agg #[.int .i64 a.kd, .int .i64 a.nn, .int .u64 (uN a.h : Nat), .int .u64 (uN a.x : Nat), .int .u64 (uN a.y : Nat)]) rfl (by kernel_rfl) (by kernel_rfl) (by kernel_rfl) (fun _ _ _ h => h) (Or.inl ⟨by rfl, fun w hSw => by (try dsimp only at hSw); obtain ⟨y0, y1, y2⟩ := hSw; obtain ⟨c0, c1, c2, c3, c4⟩ := call_cells y1; go_simp⟩) hS1 ?_
        simp only [Act.put, List.setIfInBounds_toArray, List.set_cons_zero, List.set_cons_succ]
        refine wpAnyH_take (i := 7) (oi := { dst := some 77, op := Go.Op.load 41 (Go.Operand.tmp 8), type := 41, pos := "law.go:238", after := #[], guard := none }) (v := .agg #[.int .i64 0, .int .u64 (1000 + (k : Int)), .bool false]) rfl (by kernel_rfl) (by kernel_rfl) (by kernel_rfl) (fun _ _ _ h => h) (Or.inl ⟨by rfl, fun w hSw => by (try dsimp only at hSw); obtain ⟨y0, y1, y2⟩ := hSw; obtain ⟨c0, c1, c2⟩ := ans_cells y2; go_simp⟩) hS1 ?_
        simp only [Act.put, List.setIfInBounds_toArray, List.set_cons_zero, List.set_cons_succ]
        refine wpAnyH_ready (rs := [8]) (by kernel_rfl) (by simp) (AllReadyH.cons (o := { dst := some 78, op := Go.Op.call { callee := Go.Callee.value (Go.Operand.func 16), args := #[Go.Operand.tmp 70, Go.Operand.tmp 75, Go.Operand.tmp 76, Go.Operand.tmp 77], argTypes := #[23, 3, 37, 41] }, type := 4, pos := "law.go:238", after := #[{ on := 0, ground := Go.Ground.data }, { on := 5, ground := Go.Ground.data }, { on := 6, ground := Go.Ground.data }, { on := 7, ground := Go.Ground.data }], guard := none }) rfl (fun K hK => ?_) AllReadyH.nil)
        go_simp
        go_at_call 16
        with_reducible refine cD.out.mono ?_
        rintro r w7 ⟨rfl, I7, c7⟩
        (try simp only [])
        have cW : Chg (Lup L w wr) wr w7 := (Chg.of_below b6).trans (c7.widen b6)
        have cA := I.out.2.2.1.trans cW
        have ec7 : w7.heap[b]? = w.heap[b]? := cA.block b hb hbL
        have nL : ∀ q, wr.heap.size ≤ q → ¬ Lup L w wr q := fun q hq hl => by
          rcases hl with hl | hl
          · have := hL.out q hl; have := I.out.2.2.1.size; omega
          · omega
        have hq7 := (c7.block bq (lt_of_block (show w5.drew.heap[bq]? = _ from hq5)) (nL bq (by omega))).trans hq5
        have ha7 := (c7.block ba (lt_of_block (show w5.drew.heap[ba]? = _ from ha5)) (nL ba (by omega))).trans ha5
        refine hK.out _ _ ⟨ec7, hq7, ha7⟩ (fun hS1 => ?_)
        (try simp only [Act.put, List.setIfInBounds_toArray, List.set_cons_zero, List.set_cons_succ])
        clear hK K
        refine wpAnyH_done (by kernel_rfl) ?_ _
        clear hS1 ec7 hq7 ha7 nL
        have I8 := I7.up (L' := Lup L w w7) (fun q hq => by
          have s1 := b6.size
          have s2 := c7.size
          have s3 := I.out.2.2.1.size
          rcases hq with (hq | hq) | hq
          · exact .inl hq
          · exact .inr ⟨hq.1, by omega⟩
          · exact .inr ⟨by omega, hq.2⟩)
        have hdr : A.drop k = a :: A.drop (k + 1) := by rw [List.drop_eq_getElem_cons (by have := hlA.out; omega)]; congr 1; have e := ha; rw [List.getElem?_eq_getElem (by have := hlA.out; omega)] at e; exact Option.some.inj e
        have hR := I.out.2.2.2
        rw [hdr] at hR
        replace hR : playsF C (A.drop (k + 1)) (k + 1) ((stepP C X' k a).getD X') (s ++ if (stepP C X' k a).isSome then ⟨#[121]⟩ else ⟨#[110]⟩) = R := hR
        have J := hid1 (⟨I8, hiv2.out, cA, hR⟩ : IsM w7 B (Lup L w w7) C (n + 2 * (k + 1)) ((stepP C X' k a).getD X') ∧ ((stepP C X' k a).getD X').Inv (N + (k + 1)) ∧ Chg L w w7 ∧ playsF C (A.drop (k + 1)) (k + 1) ((stepP C X' k a).getD X') (s ++ if (stepP C X' k a).isSome then ⟨#[121]⟩ else ⟨#[110]⟩) = R)
        clear I7 c7 cW cA I8 hdr hR hiv2 b5 b6 ec5 hq5 ha5 cD
        cases ho : (stepP C X' k a).isSome with
        | true =>
          have J2 := hid1 (by have q := J.out; rw [ho, if_pos rfl] at q; exact q)
          replace ho := hid1 ho
          have hcat : ∀ w, (Op.stringOp .add s ⟨#[121]⟩).run Try.prog w = .ok (.string (s ++ ⟨#[121]⟩)) w := fun w => run_string_add_sum w _ _ (by have := hss; show s.size + 1 ≤ _; omega)
          clear J
          go_wp2
          go_roundg (lA - (k + 1))
          case measure => omega
          case rel => exact ⟨k + 1, _, _, congrArg (Value.int .i64) (by omega), rfl, by omega, Nat.le_refl _, by rw [size_app, hss]; rfl, J2⟩
        | false =>
          have J2 := hid1 (by have q := J.out; rw [ho, if_neg (by decide)] at q; exact q)
          replace ho := hid1 ho
          have hcat : ∀ w, (Op.stringOp .add s ⟨#[110]⟩).run Try.prog w = .ok (.string (s ++ ⟨#[110]⟩)) w := fun w => run_string_add_sum w _ _ (by have := hss; show s.size + 1 ≤ _; omega)
          clear J
          go_wp2
          go_roundg (lA - (k + 1))
          case measure => omega
          case rel => exact ⟨k + 1, _, _, congrArg (Value.int .i64) (by omega), rfl, by omega, Nat.le_refl _, by rw [size_app, hss]; rfl, J2⟩
      by_cases k2 : a.kd = 2
      · have f1 : (a.kd == 1) = false := by simp [k1]
        have f2 : (a.kd == 2) = true := by simp [k2]
        have hb1 : hB a.kd = true := by unfold hB; simp [k2]
        clear k1 k2
        go_upto_region 9 with fail
        have b5 := b4.setCell (p := ⟨ba, 1, none⟩) hba (.int .u64 (1000 + (k : Int)))
        have ec5 := (b5.block _ hbr).trans ec
        have hq5 := (Below.heap_setCell w4 ⟨ba, 1, none⟩ (.int .u64 (1000 + (k : Int))) bq (fun e => nba e.symm)).trans hq4
        have ha5 := heap_put (o := 1) ha4 (.int .u64 (1000 + (k : Int)))
        replace ha5 : (w4.setCell ⟨ba, 1, none⟩ (.int .u64 (1000 + (k : Int)))).heap[ba]? = some (.cells #[.int .i64 0, .int .u64 (1000 + (k : Int)), .bool false] 41 (0, 0)) := ha5
        generalize World.setCell _ _ _ = w5 at b5 ec5 hq5 ha5 ⊢
        clear b4 ec4 hq4 ha4 d0 d1 d2
        have hds : dsO C X' a.cl a.kd a.nn (uN a.h) (uN a.x) (uN a.y) 0 (1000 + k) false = stepP C X' k a := by unfold stepP; rw [hb1]; rfl
        have hhw : (1000 + k) < 18446744073709551616 := by omega
        have b6 := b5.drew
        have I6 := I.out.1.below b6
        have hL6 : ∀ i, Lup L w wr i → i < w5.drew.heap.size := fun i hi => by
          rcases hi with hi | hi
          · exact Nat.lt_of_lt_of_le (hL.out i hi) (Nat.le_trans I.out.2.2.1.size b6.size)
          · exact Nat.lt_of_lt_of_le hi.2 b6.size
        have cD := does_M I6 hL6 I.out.2.1 (by omega) (by omega) hCa a.cl a.kd a.nn (uN_lt a.h) (uN_lt a.x) (uN_lt a.y) 0 hhw false
        rw [hds, show (((1000 + k : Nat)) : Int) = 1000 + (k : Int) by omega] at cD
        replace cD := hid1 cD
        have hiv := hid1 (inv_get (who := a.cl) (kd := a.kd) (cN := a.nn) (cH := uN a.h) (cX := uN a.x) (cY := uN a.y) (aE := 0) (aY := false) I.out.2.1 (by obtain ⟨m0, h0⟩ := I.out.1; exact h0.nc) hCa hhw)
        have hiv2 : Hid (((stepP C X' k a).getD X').Inv (N + k + 1)) := hid1 (by have := hiv.out; rw [hds] at this; exact this)
        clear hiv hds hL6 I6
        refine wp_region_held_drew (S := fun wx => wx.heap[b]? = w.heap[b]? ∧ wx.heap[bq]? = some (.cells #[.int .i64 a.kd, .int .i64 a.nn, .int .u64 (uN a.h : Nat), .int .u64 (uN a.x : Nat), .int .u64 (uN a.y : Nat)] 37 (0, 0)) ∧ wx.heap[ba]? = some (.cells #[.int .i64 0, .int .u64 (1000 + (k : Int)), .bool false] 41 (0, 0))) (by kernel_rfl) ⟨ec5, hq5, ha5⟩ (fun hS1 => ?_)
        refine wpAnyH_take (i := 0) (oi := { dst := some 70, op := Go.Op.move (Go.Operand.tmp 0), type := 23, pos := "law.go:238", after := #[], guard := none }) (v := .pointer (some ⟨B, 0, none⟩)) rfl (by kernel_rfl) (by kernel_rfl) (by kernel_rfl) (fun _ _ _ h => h) (Or.inl ⟨by rfl, fun w hSw => by (try dsimp only at hSw); go_simp⟩) hS1 ?_
        simp only [Act.put, List.setIfInBounds_toArray, List.set_cons_zero, List.set_cons_succ]
        refine wpAnyH_take (i := 1) (oi := { dst := some 71, op := Go.Op.move (Go.Operand.tmp 1), type := 22, pos := "law.go:238", after := #[], guard := none }) (v := .slice (some ⟨b, off, none⟩) lA cap) rfl (by kernel_rfl) (by kernel_rfl) (by kernel_rfl) (fun _ _ _ h => h) (Or.inl ⟨by rfl, fun w hSw => by (try dsimp only at hSw); go_simp⟩) hS1 ?_
        simp only [Act.put, List.setIfInBounds_toArray, List.set_cons_zero, List.set_cons_succ]
        refine wpAnyH_take (i := 2) (oi := { dst := some 72, op := Go.Op.move (Go.Operand.tmp 6), type := 3, pos := "law.go:238", after := #[], guard := none }) (v := .int .i64 (k : Nat)) rfl (by kernel_rfl) (by kernel_rfl) (by kernel_rfl) (fun _ _ _ h => h) (Or.inl ⟨by rfl, fun w hSw => by (try dsimp only at hSw); go_simp⟩) hS1 ?_
        simp only [Act.put, List.setIfInBounds_toArray, List.set_cons_zero, List.set_cons_succ]
        refine wpAnyH_take (i := 3) (oi := { dst := some 73, op := Go.Op.indexAddr 22 (Go.Operand.tmp 71) (Go.Operand.tmp 72), type := 0, pos := "law.go:238", after := #[{ on := 1, ground := Go.Ground.data }, { on := 2, ground := Go.Ground.data }], guard := none }) (v := .pointer (some ⟨b, off + k * 10, none⟩)) rfl (by kernel_rfl) (by kernel_rfl) (by kernel_rfl) (fun _ _ _ h => h) (Or.inl ⟨by rfl, fun w hSw => by (try dsimp only at hSw); go_simp⟩) hS1 ?_
        simp only [Act.put, List.setIfInBounds_toArray, List.set_cons_zero, List.set_cons_succ]
        refine wpAnyH_take (i := 4) (oi := { dst := some 74, op := Go.Op.fieldAddr 43 (Go.Operand.tmp 73) 0, type := 0, pos := "law.go:238", after := #[{ on := 3, ground := Go.Ground.data }], guard := none }) (v := .pointer (some ⟨b, off + k * 10, none⟩)) rfl (by kernel_rfl) (by kernel_rfl) (by kernel_rfl) (fun _ _ _ h => h) (Or.inl ⟨by rfl, fun w hSw => by (try dsimp only at hSw); go_simp⟩) hS1 ?_
        simp only [Act.put, List.setIfInBounds_toArray, List.set_cons_zero, List.set_cons_succ]
        refine wpAnyH_take (i := 5) (oi := { dst := some 75, op := Go.Op.load 3 (Go.Operand.tmp 74), type := 3, pos := "law.go:238", after := #[{ on := 4, ground := Go.Ground.data }], guard := none }) (v := .int .i64 a.cl) rfl (by kernel_rfl) (by kernel_rfl) (by kernel_rfl) (fun _ _ _ h => h) (Or.inl ⟨by rfl, fun w hSw => by (try dsimp only at hSw); obtain ⟨y0, y1, y2⟩ := hSw; obtain ⟨c0, c1, c2, c3, c4, c5⟩ := hc6.out w y0; go_simp⟩) hS1 ?_
        simp only [Act.put, List.setIfInBounds_toArray, List.set_cons_zero, List.set_cons_succ]
        refine wpAnyH_take (i := 6) (oi := { dst := some 76, op := Go.Op.load 37 (Go.Operand.tmp 7), type := 37, pos := "law.go:238", after := #[], guard := none }) (v := .agg #[.int .i64 a.kd, .int .i64 a.nn, .int .u64 (uN a.h : Nat), .int .u64 (uN a.x : Nat), .int .u64 (uN a.y : Nat)]) rfl (by kernel_rfl) (by kernel_rfl) (by kernel_rfl) (fun _ _ _ h => h) (Or.inl ⟨by rfl, fun w hSw => by (try dsimp only at hSw); obtain ⟨y0, y1, y2⟩ := hSw; obtain ⟨c0, c1, c2, c3, c4⟩ := call_cells y1; go_simp⟩) hS1 ?_
        simp only [Act.put, List.setIfInBounds_toArray, List.set_cons_zero, List.set_cons_succ]
        refine wpAnyH_take (i := 7) (oi := { dst := some 77, op := Go.Op.load 41 (Go.Operand.tmp 8), type := 41, pos := "law.go:238", after := #[], guard := none }) (v := .agg #[.int .i64 0, .int .u64 (1000 + (k : Int)), .bool false]) rfl (by kernel_rfl) (by kernel_rfl) (by kernel_rfl) (fun _ _ _ h => h) (Or.inl ⟨by rfl, fun w hSw => by (try dsimp only at hSw); obtain ⟨y0, y1, y2⟩ := hSw; obtain ⟨c0, c1, c2⟩ := ans_cells y2; go_simp⟩) hS1 ?_
        simp only [Act.put, List.setIfInBounds_toArray, List.set_cons_zero, List.set_cons_succ]
        refine wpAnyH_ready (rs := [8]) (by kernel_rfl) (by simp) (AllReadyH.cons (o := { dst := some 78, op := Go.Op.call { callee := Go.Callee.value (Go.Operand.func 16), args := #[Go.Operand.tmp 70, Go.Operand.tmp 75, Go.Operand.tmp 76, Go.Operand.tmp 77], argTypes := #[23, 3, 37, 41] }, type := 4, pos := "law.go:238", after := #[{ on := 0, ground := Go.Ground.data }, { on := 5, ground := Go.Ground.data }, { on := 6, ground := Go.Ground.data }, { on := 7, ground := Go.Ground.data }], guard := none }) rfl (fun K hK => ?_) AllReadyH.nil)
        go_simp
        go_at_call 16
        with_reducible refine cD.out.mono ?_
        rintro r w7 ⟨rfl, I7, c7⟩
        (try simp only [])
        have cW : Chg (Lup L w wr) wr w7 := (Chg.of_below b6).trans (c7.widen b6)
        have cA := I.out.2.2.1.trans cW
        have ec7 : w7.heap[b]? = w.heap[b]? := cA.block b hb hbL
        have nL : ∀ q, wr.heap.size ≤ q → ¬ Lup L w wr q := fun q hq hl => by
          rcases hl with hl | hl
          · have := hL.out q hl; have := I.out.2.2.1.size; omega
          · omega
        have hq7 := (c7.block bq (lt_of_block (show w5.drew.heap[bq]? = _ from hq5)) (nL bq (by omega))).trans hq5
        have ha7 := (c7.block ba (lt_of_block (show w5.drew.heap[ba]? = _ from ha5)) (nL ba (by omega))).trans ha5
        refine hK.out _ _ ⟨ec7, hq7, ha7⟩ (fun hS1 => ?_)
        (try simp only [Act.put, List.setIfInBounds_toArray, List.set_cons_zero, List.set_cons_succ])
        clear hK K
        refine wpAnyH_done (by kernel_rfl) ?_ _
        clear hS1 ec7 hq7 ha7 nL
        have I8 := I7.up (L' := Lup L w w7) (fun q hq => by
          have s1 := b6.size
          have s2 := c7.size
          have s3 := I.out.2.2.1.size
          rcases hq with (hq | hq) | hq
          · exact .inl hq
          · exact .inr ⟨hq.1, by omega⟩
          · exact .inr ⟨by omega, hq.2⟩)
        have hdr : A.drop k = a :: A.drop (k + 1) := by rw [List.drop_eq_getElem_cons (by have := hlA.out; omega)]; congr 1; have e := ha; rw [List.getElem?_eq_getElem (by have := hlA.out; omega)] at e; exact Option.some.inj e
        have hR := I.out.2.2.2
        rw [hdr] at hR
        replace hR : playsF C (A.drop (k + 1)) (k + 1) ((stepP C X' k a).getD X') (s ++ if (stepP C X' k a).isSome then ⟨#[121]⟩ else ⟨#[110]⟩) = R := hR
        have J := hid1 (⟨I8, hiv2.out, cA, hR⟩ : IsM w7 B (Lup L w w7) C (n + 2 * (k + 1)) ((stepP C X' k a).getD X') ∧ ((stepP C X' k a).getD X').Inv (N + (k + 1)) ∧ Chg L w w7 ∧ playsF C (A.drop (k + 1)) (k + 1) ((stepP C X' k a).getD X') (s ++ if (stepP C X' k a).isSome then ⟨#[121]⟩ else ⟨#[110]⟩) = R)
        clear I7 c7 cW cA I8 hdr hR hiv2 b5 b6 ec5 hq5 ha5 cD
        cases ho : (stepP C X' k a).isSome with
        | true =>
          have J2 := hid1 (by have q := J.out; rw [ho, if_pos rfl] at q; exact q)
          replace ho := hid1 ho
          have hcat : ∀ w, (Op.stringOp .add s ⟨#[121]⟩).run Try.prog w = .ok (.string (s ++ ⟨#[121]⟩)) w := fun w => run_string_add_sum w _ _ (by have := hss; show s.size + 1 ≤ _; omega)
          clear J
          go_wp2
          go_roundg (lA - (k + 1))
          case measure => omega
          case rel => exact ⟨k + 1, _, _, congrArg (Value.int .i64) (by omega), rfl, by omega, Nat.le_refl _, by rw [size_app, hss]; rfl, J2⟩
        | false =>
          have J2 := hid1 (by have q := J.out; rw [ho, if_neg (by decide)] at q; exact q)
          replace ho := hid1 ho
          have hcat : ∀ w, (Op.stringOp .add s ⟨#[110]⟩).run Try.prog w = .ok (.string (s ++ ⟨#[110]⟩)) w := fun w => run_string_add_sum w _ _ (by have := hss; show s.size + 1 ≤ _; omega)
          clear J
          go_wp2
          go_roundg (lA - (k + 1))
          case measure => omega
          case rel => exact ⟨k + 1, _, _, congrArg (Value.int .i64) (by omega), rfl, by omega, Nat.le_refl _, by rw [size_app, hss]; rfl, J2⟩
      by_cases k8 : a.kd = 8
      · have f1 : (a.kd == 1) = false := by simp [k1]
        have f2 : (a.kd == 2) = false := by simp [k2]
        have f8 : (a.kd == 8) = true := by simp [k8]
        have hb1 : hB a.kd = true := by unfold hB; simp [k8]
        clear k1 k2 k8
        go_upto_region 9 with fail
        have b5 := b4.setCell (p := ⟨ba, 1, none⟩) hba (.int .u64 (1000 + (k : Int)))
        have ec5 := (b5.block _ hbr).trans ec
        have hq5 := (Below.heap_setCell w4 ⟨ba, 1, none⟩ (.int .u64 (1000 + (k : Int))) bq (fun e => nba e.symm)).trans hq4
        have ha5 := heap_put (o := 1) ha4 (.int .u64 (1000 + (k : Int)))
        replace ha5 : (w4.setCell ⟨ba, 1, none⟩ (.int .u64 (1000 + (k : Int)))).heap[ba]? = some (.cells #[.int .i64 0, .int .u64 (1000 + (k : Int)), .bool false] 41 (0, 0)) := ha5
        generalize World.setCell _ _ _ = w5 at b5 ec5 hq5 ha5 ⊢
        clear b4 ec4 hq4 ha4 d0 d1 d2
        have hds : dsO C X' a.cl a.kd a.nn (uN a.h) (uN a.x) (uN a.y) 0 (1000 + k) false = stepP C X' k a := by unfold stepP; rw [hb1]; rfl
        have hhw : (1000 + k) < 18446744073709551616 := by omega
        have b6 := b5.drew
        have I6 := I.out.1.below b6
        have hL6 : ∀ i, Lup L w wr i → i < w5.drew.heap.size := fun i hi => by
          rcases hi with hi | hi
          · exact Nat.lt_of_lt_of_le (hL.out i hi) (Nat.le_trans I.out.2.2.1.size b6.size)
          · exact Nat.lt_of_lt_of_le hi.2 b6.size
        have cD := does_M I6 hL6 I.out.2.1 (by omega) (by omega) hCa a.cl a.kd a.nn (uN_lt a.h) (uN_lt a.x) (uN_lt a.y) 0 hhw false
        rw [hds, show (((1000 + k : Nat)) : Int) = 1000 + (k : Int) by omega] at cD
        replace cD := hid1 cD
        have hiv := hid1 (inv_get (who := a.cl) (kd := a.kd) (cN := a.nn) (cH := uN a.h) (cX := uN a.x) (cY := uN a.y) (aE := 0) (aY := false) I.out.2.1 (by obtain ⟨m0, h0⟩ := I.out.1; exact h0.nc) hCa hhw)
        have hiv2 : Hid (((stepP C X' k a).getD X').Inv (N + k + 1)) := hid1 (by have := hiv.out; rw [hds] at this; exact this)
        clear hiv hds hL6 I6
        refine wp_region_held_drew (S := fun wx => wx.heap[b]? = w.heap[b]? ∧ wx.heap[bq]? = some (.cells #[.int .i64 a.kd, .int .i64 a.nn, .int .u64 (uN a.h : Nat), .int .u64 (uN a.x : Nat), .int .u64 (uN a.y : Nat)] 37 (0, 0)) ∧ wx.heap[ba]? = some (.cells #[.int .i64 0, .int .u64 (1000 + (k : Int)), .bool false] 41 (0, 0))) (by kernel_rfl) ⟨ec5, hq5, ha5⟩ (fun hS1 => ?_)
        refine wpAnyH_take (i := 0) (oi := { dst := some 70, op := Go.Op.move (Go.Operand.tmp 0), type := 23, pos := "law.go:238", after := #[], guard := none }) (v := .pointer (some ⟨B, 0, none⟩)) rfl (by kernel_rfl) (by kernel_rfl) (by kernel_rfl) (fun _ _ _ h => h) (Or.inl ⟨by rfl, fun w hSw => by (try dsimp only at hSw); go_simp⟩) hS1 ?_
        simp only [Act.put, List.setIfInBounds_toArray, List.set_cons_zero, List.set_cons_succ]
        refine wpAnyH_take (i := 1) (oi := { dst := some 71, op := Go.Op.move (Go.Operand.tmp 1), type := 22, pos := "law.go:238", after := #[], guard := none }) (v := .slice (some ⟨b, off, none⟩) lA cap) rfl (by kernel_rfl) (by kernel_rfl) (by kernel_rfl) (fun _ _ _ h => h) (Or.inl ⟨by rfl, fun w hSw => by (try dsimp only at hSw); go_simp⟩) hS1 ?_
        simp only [Act.put, List.setIfInBounds_toArray, List.set_cons_zero, List.set_cons_succ]
        refine wpAnyH_take (i := 2) (oi := { dst := some 72, op := Go.Op.move (Go.Operand.tmp 6), type := 3, pos := "law.go:238", after := #[], guard := none }) (v := .int .i64 (k : Nat)) rfl (by kernel_rfl) (by kernel_rfl) (by kernel_rfl) (fun _ _ _ h => h) (Or.inl ⟨by rfl, fun w hSw => by (try dsimp only at hSw); go_simp⟩) hS1 ?_
        simp only [Act.put, List.setIfInBounds_toArray, List.set_cons_zero, List.set_cons_succ]
        refine wpAnyH_take (i := 3) (oi := { dst := some 73, op := Go.Op.indexAddr 22 (Go.Operand.tmp 71) (Go.Operand.tmp 72), type := 0, pos := "law.go:238", after := #[{ on := 1, ground := Go.Ground.data }, { on := 2, ground := Go.Ground.data }], guard := none }) (v := .pointer (some ⟨b, off + k * 10, none⟩)) rfl (by kernel_rfl) (by kernel_rfl) (by kernel_rfl) (fun _ _ _ h => h) (Or.inl ⟨by rfl, fun w hSw => by (try dsimp only at hSw); go_simp⟩) hS1 ?_
        simp only [Act.put, List.setIfInBounds_toArray, List.set_cons_zero, List.set_cons_succ]
        refine wpAnyH_take (i := 4) (oi := { dst := some 74, op := Go.Op.fieldAddr 43 (Go.Operand.tmp 73) 0, type := 0, pos := "law.go:238", after := #[{ on := 3, ground := Go.Ground.data }], guard := none }) (v := .pointer (some ⟨b, off + k * 10, none⟩)) rfl (by kernel_rfl) (by kernel_rfl) (by kernel_rfl) (fun _ _ _ h => h) (Or.inl ⟨by rfl, fun w hSw => by (try dsimp only at hSw); go_simp⟩) hS1 ?_
        simp only [Act.put, List.setIfInBounds_toArray, List.set_cons_zero, List.set_cons_succ]
        refine wpAnyH_take (i := 5) (oi := { dst := some 75, op := Go.Op.load 3 (Go.Operand.tmp 74), type := 3, pos := "law.go:238", after := #[{ on := 4, ground := Go.Ground.data }], guard := none }) (v := .int .i64 a.cl) rfl (by kernel_rfl) (by kernel_rfl) (by kernel_rfl) (fun _ _ _ h => h) (Or.inl ⟨by rfl, fun w hSw => by (try dsimp only at hSw); obtain ⟨y0, y1, y2⟩ := hSw; obtain ⟨c0, c1, c2, c3, c4, c5⟩ := hc6.out w y0; go_simp⟩) hS1 ?_
        simp only [Act.put, List.setIfInBounds_toArray, List.set_cons_zero, List.set_cons_succ]
        refine wpAnyH_take (i := 6) (oi := { dst := some 76, op := Go.Op.load 37 (Go.Operand.tmp 7), type := 37, pos := "law.go:238", after := #[], guard := none }) (v := .agg #[.int .i64 a.kd, .int .i64 a.nn, .int .u64 (uN a.h : Nat), .int .u64 (uN a.x : Nat), .int .u64 (uN a.y : Nat)]) rfl (by kernel_rfl) (by kernel_rfl) (by kernel_rfl) (fun _ _ _ h => h) (Or.inl ⟨by rfl, fun w hSw => by (try dsimp only at hSw); obtain ⟨y0, y1, y2⟩ := hSw; obtain ⟨c0, c1, c2, c3, c4⟩ := call_cells y1; go_simp⟩) hS1 ?_
        simp only [Act.put, List.setIfInBounds_toArray, List.set_cons_zero, List.set_cons_succ]
        refine wpAnyH_take (i := 7) (oi := { dst := some 77, op := Go.Op.load 41 (Go.Operand.tmp 8), type := 41, pos := "law.go:238", after := #[], guard := none }) (v := .agg #[.int .i64 0, .int .u64 (1000 + (k : Int)), .bool false]) rfl (by kernel_rfl) (by kernel_rfl) (by kernel_rfl) (fun _ _ _ h => h) (Or.inl ⟨by rfl, fun w hSw => by (try dsimp only at hSw); obtain ⟨y0, y1, y2⟩ := hSw; obtain ⟨c0, c1, c2⟩ := ans_cells y2; go_simp⟩) hS1 ?_
        simp only [Act.put, List.setIfInBounds_toArray, List.set_cons_zero, List.set_cons_succ]
        refine wpAnyH_ready (rs := [8]) (by kernel_rfl) (by simp) (AllReadyH.cons (o := { dst := some 78, op := Go.Op.call { callee := Go.Callee.value (Go.Operand.func 16), args := #[Go.Operand.tmp 70, Go.Operand.tmp 75, Go.Operand.tmp 76, Go.Operand.tmp 77], argTypes := #[23, 3, 37, 41] }, type := 4, pos := "law.go:238", after := #[{ on := 0, ground := Go.Ground.data }, { on := 5, ground := Go.Ground.data }, { on := 6, ground := Go.Ground.data }, { on := 7, ground := Go.Ground.data }], guard := none }) rfl (fun K hK => ?_) AllReadyH.nil)
        go_simp
        go_at_call 16
        with_reducible refine cD.out.mono ?_
        rintro r w7 ⟨rfl, I7, c7⟩
        (try simp only [])
        have cW : Chg (Lup L w wr) wr w7 := (Chg.of_below b6).trans (c7.widen b6)
        have cA := I.out.2.2.1.trans cW
        have ec7 : w7.heap[b]? = w.heap[b]? := cA.block b hb hbL
        have nL : ∀ q, wr.heap.size ≤ q → ¬ Lup L w wr q := fun q hq hl => by
          rcases hl with hl | hl
          · have := hL.out q hl; have := I.out.2.2.1.size; omega
          · omega
        have hq7 := (c7.block bq (lt_of_block (show w5.drew.heap[bq]? = _ from hq5)) (nL bq (by omega))).trans hq5
        have ha7 := (c7.block ba (lt_of_block (show w5.drew.heap[ba]? = _ from ha5)) (nL ba (by omega))).trans ha5
        refine hK.out _ _ ⟨ec7, hq7, ha7⟩ (fun hS1 => ?_)
        (try simp only [Act.put, List.setIfInBounds_toArray, List.set_cons_zero, List.set_cons_succ])
        clear hK K
        refine wpAnyH_done (by kernel_rfl) ?_ _
        clear hS1 ec7 hq7 ha7 nL
        have I8 := I7.up (L' := Lup L w w7) (fun q hq => by
          have s1 := b6.size
          have s2 := c7.size
          have s3 := I.out.2.2.1.size
          rcases hq with (hq | hq) | hq
          · exact .inl hq
          · exact .inr ⟨hq.1, by omega⟩
          · exact .inr ⟨by omega, hq.2⟩)
        have hdr : A.drop k = a :: A.drop (k + 1) := by rw [List.drop_eq_getElem_cons (by have := hlA.out; omega)]; congr 1; have e := ha; rw [List.getElem?_eq_getElem (by have := hlA.out; omega)] at e; exact Option.some.inj e
        have hR := I.out.2.2.2
        rw [hdr] at hR
        replace hR : playsF C (A.drop (k + 1)) (k + 1) ((stepP C X' k a).getD X') (s ++ if (stepP C X' k a).isSome then ⟨#[121]⟩ else ⟨#[110]⟩) = R := hR
        have J := hid1 (⟨I8, hiv2.out, cA, hR⟩ : IsM w7 B (Lup L w w7) C (n + 2 * (k + 1)) ((stepP C X' k a).getD X') ∧ ((stepP C X' k a).getD X').Inv (N + (k + 1)) ∧ Chg L w w7 ∧ playsF C (A.drop (k + 1)) (k + 1) ((stepP C X' k a).getD X') (s ++ if (stepP C X' k a).isSome then ⟨#[121]⟩ else ⟨#[110]⟩) = R)
        clear I7 c7 cW cA I8 hdr hR hiv2 b5 b6 ec5 hq5 ha5 cD
        cases ho : (stepP C X' k a).isSome with
        | true =>
          have J2 := hid1 (by have q := J.out; rw [ho, if_pos rfl] at q; exact q)
          replace ho := hid1 ho
          have hcat : ∀ w, (Op.stringOp .add s ⟨#[121]⟩).run Try.prog w = .ok (.string (s ++ ⟨#[121]⟩)) w := fun w => run_string_add_sum w _ _ (by have := hss; show s.size + 1 ≤ _; omega)
          clear J
          go_wp2
          go_roundg (lA - (k + 1))
          case measure => omega
          case rel => exact ⟨k + 1, _, _, congrArg (Value.int .i64) (by omega), rfl, by omega, Nat.le_refl _, by rw [size_app, hss]; rfl, J2⟩
        | false =>
          have J2 := hid1 (by have q := J.out; rw [ho, if_neg (by decide)] at q; exact q)
          replace ho := hid1 ho
          have hcat : ∀ w, (Op.stringOp .add s ⟨#[110]⟩).run Try.prog w = .ok (.string (s ++ ⟨#[110]⟩)) w := fun w => run_string_add_sum w _ _ (by have := hss; show s.size + 1 ≤ _; omega)
          clear J
          go_wp2
          go_roundg (lA - (k + 1))
          case measure => omega
          case rel => exact ⟨k + 1, _, _, congrArg (Value.int .i64) (by omega), rfl, by omega, Nat.le_refl _, by rw [size_app, hss]; rfl, J2⟩
      have f1 : (a.kd == 1) = false := by simp [k1]
      have f2 : (a.kd == 2) = false := by simp [k2]
      have f8 : (a.kd == 8) = false := by simp [k8]
      by_cases k9 : a.kd = 9
      · have f9 : (a.kd == 9) = true := by simp [k9]
        have hb1 : hB a.kd = true := by unfold hB; simp [k9]
        clear k1 k2 k8 k9
        go_upto_region 9 with fail
        have b5 := b4.setCell (p := ⟨ba, 1, none⟩) hba (.int .u64 (1000 + (k : Int)))
        have ec5 := (b5.block _ hbr).trans ec
        have hq5 := (Below.heap_setCell w4 ⟨ba, 1, none⟩ (.int .u64 (1000 + (k : Int))) bq (fun e => nba e.symm)).trans hq4
        have ha5 := heap_put (o := 1) ha4 (.int .u64 (1000 + (k : Int)))
        replace ha5 : (w4.setCell ⟨ba, 1, none⟩ (.int .u64 (1000 + (k : Int)))).heap[ba]? = some (.cells #[.int .i64 0, .int .u64 (1000 + (k : Int)), .bool false] 41 (0, 0)) := ha5
        generalize World.setCell _ _ _ = w5 at b5 ec5 hq5 ha5 ⊢
        clear b4 ec4 hq4 ha4 d0 d1 d2
        have hds : dsO C X' a.cl a.kd a.nn (uN a.h) (uN a.x) (uN a.y) 0 (1000 + k) false = stepP C X' k a := by unfold stepP; rw [hb1]; rfl
        have hhw : (1000 + k) < 18446744073709551616 := by omega
        have b6 := b5.drew
        have I6 := I.out.1.below b6
        have hL6 : ∀ i, Lup L w wr i → i < w5.drew.heap.size := fun i hi => by
          rcases hi with hi | hi
          · exact Nat.lt_of_lt_of_le (hL.out i hi) (Nat.le_trans I.out.2.2.1.size b6.size)
          · exact Nat.lt_of_lt_of_le hi.2 b6.size
        have cD := does_M I6 hL6 I.out.2.1 (by omega) (by omega) hCa a.cl a.kd a.nn (uN_lt a.h) (uN_lt a.x) (uN_lt a.y) 0 hhw false
        rw [hds, show (((1000 + k : Nat)) : Int) = 1000 + (k : Int) by omega] at cD
        replace cD := hid1 cD
        have hiv := hid1 (inv_get (who := a.cl) (kd := a.kd) (cN := a.nn) (cH := uN a.h) (cX := uN a.x) (cY := uN a.y) (aE := 0) (aY := false) I.out.2.1 (by obtain ⟨m0, h0⟩ := I.out.1; exact h0.nc) hCa hhw)
        have hiv2 : Hid (((stepP C X' k a).getD X').Inv (N + k + 1)) := hid1 (by have := hiv.out; rw [hds] at this; exact this)
        clear hiv hds hL6 I6
        refine wp_region_held_drew (S := fun wx => wx.heap[b]? = w.heap[b]? ∧ wx.heap[bq]? = some (.cells #[.int .i64 a.kd, .int .i64 a.nn, .int .u64 (uN a.h : Nat), .int .u64 (uN a.x : Nat), .int .u64 (uN a.y : Nat)] 37 (0, 0)) ∧ wx.heap[ba]? = some (.cells #[.int .i64 0, .int .u64 (1000 + (k : Int)), .bool false] 41 (0, 0))) (by kernel_rfl) ⟨ec5, hq5, ha5⟩ (fun hS1 => ?_)
        refine wpAnyH_take (i := 0) (oi := { dst := some 70, op := Go.Op.move (Go.Operand.tmp 0), type := 23, pos := "law.go:238", after := #[], guard := none }) (v := .pointer (some ⟨B, 0, none⟩)) rfl (by kernel_rfl) (by kernel_rfl) (by kernel_rfl) (fun _ _ _ h => h) (Or.inl ⟨by rfl, fun w hSw => by (try dsimp only at hSw); go_simp⟩) hS1 ?_
        simp only [Act.put, List.setIfInBounds_toArray, List.set_cons_zero, List.set_cons_succ]
        refine wpAnyH_take (i := 1) (oi := { dst := some 71, op := Go.Op.move (Go.Operand.tmp 1), type := 22, pos := "law.go:238", after := #[], guard := none }) (v := .slice (some ⟨b, off, none⟩) lA cap) rfl (by kernel_rfl) (by kernel_rfl) (by kernel_rfl) (fun _ _ _ h => h) (Or.inl ⟨by rfl, fun w hSw => by (try dsimp only at hSw); go_simp⟩) hS1 ?_
        simp only [Act.put, List.setIfInBounds_toArray, List.set_cons_zero, List.set_cons_succ]
        refine wpAnyH_take (i := 2) (oi := { dst := some 72, op := Go.Op.move (Go.Operand.tmp 6), type := 3, pos := "law.go:238", after := #[], guard := none }) (v := .int .i64 (k : Nat)) rfl (by kernel_rfl) (by kernel_rfl) (by kernel_rfl) (fun _ _ _ h => h) (Or.inl ⟨by rfl, fun w hSw => by (try dsimp only at hSw); go_simp⟩) hS1 ?_
        simp only [Act.put, List.setIfInBounds_toArray, List.set_cons_zero, List.set_cons_succ]
        refine wpAnyH_take (i := 3) (oi := { dst := some 73, op := Go.Op.indexAddr 22 (Go.Operand.tmp 71) (Go.Operand.tmp 72), type := 0, pos := "law.go:238", after := #[{ on := 1, ground := Go.Ground.data }, { on := 2, ground := Go.Ground.data }], guard := none }) (v := .pointer (some ⟨b, off + k * 10, none⟩)) rfl (by kernel_rfl) (by kernel_rfl) (by kernel_rfl) (fun _ _ _ h => h) (Or.inl ⟨by rfl, fun w hSw => by (try dsimp only at hSw); go_simp⟩) hS1 ?_
        simp only [Act.put, List.setIfInBounds_toArray, List.set_cons_zero, List.set_cons_succ]
        refine wpAnyH_take (i := 4) (oi := { dst := some 74, op := Go.Op.fieldAddr 43 (Go.Operand.tmp 73) 0, type := 0, pos := "law.go:238", after := #[{ on := 3, ground := Go.Ground.data }], guard := none }) (v := .pointer (some ⟨b, off + k * 10, none⟩)) rfl (by kernel_rfl) (by kernel_rfl) (by kernel_rfl) (fun _ _ _ h => h) (Or.inl ⟨by rfl, fun w hSw => by (try dsimp only at hSw); go_simp⟩) hS1 ?_
        simp only [Act.put, List.setIfInBounds_toArray, List.set_cons_zero, List.set_cons_succ]
        refine wpAnyH_take (i := 5) (oi := { dst := some 75, op := Go.Op.load 3 (Go.Operand.tmp 74), type := 3, pos := "law.go:238", after := #[{ on := 4, ground := Go.Ground.data }], guard := none }) (v := .int .i64 a.cl) rfl (by kernel_rfl) (by kernel_rfl) (by kernel_rfl) (fun _ _ _ h => h) (Or.inl ⟨by rfl, fun w hSw => by (try dsimp only at hSw); obtain ⟨y0, y1, y2⟩ := hSw; obtain ⟨c0, c1, c2, c3, c4, c5⟩ := hc6.out w y0; go_simp⟩) hS1 ?_
        simp only [Act.put, List.setIfInBounds_toArray, List.set_cons_zero, List.set_cons_succ]
        refine wpAnyH_take (i := 6) (oi := { dst := some 76, op := Go.Op.load 37 (Go.Operand.tmp 7), type := 37, pos := "law.go:238", after := #[], guard := none }) (v := .agg #[.int .i64 a.kd, .int .i64 a.nn, .int .u64 (uN a.h : Nat), .int .u64 (uN a.x : Nat), .int .u64 (uN a.y : Nat)]) rfl (by kernel_rfl) (by kernel_rfl) (by kernel_rfl) (fun _ _ _ h => h) (Or.inl ⟨by rfl, fun w hSw => by (try dsimp only at hSw); obtain ⟨y0, y1, y2⟩ := hSw; obtain ⟨c0, c1, c2, c3, c4⟩ := call_cells y1; go_simp⟩) hS1 ?_
        simp only [Act.put, List.setIfInBounds_toArray, List.set_cons_zero, List.set_cons_succ]
        refine wpAnyH_take (i := 7) (oi := { dst := some 77, op := Go.Op.load 41 (Go.Operand.tmp 8), type := 41, pos := "law.go:238", after := #[], guard := none }) (v := .agg #[.int .i64 0, .int .u64 (1000 + (k : Int)), .bool false]) rfl (by kernel_rfl) (by kernel_rfl) (by kernel_rfl) (fun _ _ _ h => h) (Or.inl ⟨by rfl, fun w hSw => by (try dsimp only at hSw); obtain ⟨y0, y1, y2⟩ := hSw; obtain ⟨c0, c1, c2⟩ := ans_cells y2; go_simp⟩) hS1 ?_
        simp only [Act.put, List.setIfInBounds_toArray, List.set_cons_zero, List.set_cons_succ]
        refine wpAnyH_ready (rs := [8]) (by kernel_rfl) (by simp) (AllReadyH.cons (o := { dst := some 78, op := Go.Op.call { callee := Go.Callee.value (Go.Operand.func 16), args := #[Go.Operand.tmp 70, Go.Operand.tmp 75, Go.Operand.tmp 76, Go.Operand.tmp 77], argTypes := #[23, 3, 37, 41] }, type := 4, pos := "law.go:238", after := #[{ on := 0, ground := Go.Ground.data }, { on := 5, ground := Go.Ground.data }, { on := 6, ground := Go.Ground.data }, { on := 7, ground := Go.Ground.data }], guard := none }) rfl (fun K hK => ?_) AllReadyH.nil)
        go_simp
        go_at_call 16
        with_reducible refine cD.out.mono ?_
        rintro r w7 ⟨rfl, I7, c7⟩
        (try simp only [])
        have cW : Chg (Lup L w wr) wr w7 := (Chg.of_below b6).trans (c7.widen b6)
        have cA := I.out.2.2.1.trans cW
        have ec7 : w7.heap[b]? = w.heap[b]? := cA.block b hb hbL
        have nL : ∀ q, wr.heap.size ≤ q → ¬ Lup L w wr q := fun q hq hl => by
          rcases hl with hl | hl
          · have := hL.out q hl; have := I.out.2.2.1.size; omega
          · omega
        have hq7 := (c7.block bq (lt_of_block (show w5.drew.heap[bq]? = _ from hq5)) (nL bq (by omega))).trans hq5
        have ha7 := (c7.block ba (lt_of_block (show w5.drew.heap[ba]? = _ from ha5)) (nL ba (by omega))).trans ha5
        refine hK.out _ _ ⟨ec7, hq7, ha7⟩ (fun hS1 => ?_)
        (try simp only [Act.put, List.setIfInBounds_toArray, List.set_cons_zero, List.set_cons_succ])
        clear hK K
        refine wpAnyH_done (by kernel_rfl) ?_ _
        clear hS1 ec7 hq7 ha7 nL
        have I8 := I7.up (L' := Lup L w w7) (fun q hq => by
          have s1 := b6.size
          have s2 := c7.size
          have s3 := I.out.2.2.1.size
          rcases hq with (hq | hq) | hq
          · exact .inl hq
          · exact .inr ⟨hq.1, by omega⟩
          · exact .inr ⟨by omega, hq.2⟩)
        have hdr : A.drop k = a :: A.drop (k + 1) := by rw [List.drop_eq_getElem_cons (by have := hlA.out; omega)]; congr 1; have e := ha; rw [List.getElem?_eq_getElem (by have := hlA.out; omega)] at e; exact Option.some.inj e
        have hR := I.out.2.2.2
        rw [hdr] at hR
        replace hR : playsF C (A.drop (k + 1)) (k + 1) ((stepP C X' k a).getD X') (s ++ if (stepP C X' k a).isSome then ⟨#[121]⟩ else ⟨#[110]⟩) = R := hR
        have J := hid1 (⟨I8, hiv2.out, cA, hR⟩ : IsM w7 B (Lup L w w7) C (n + 2 * (k + 1)) ((stepP C X' k a).getD X') ∧ ((stepP C X' k a).getD X').Inv (N + (k + 1)) ∧ Chg L w w7 ∧ playsF C (A.drop (k + 1)) (k + 1) ((stepP C X' k a).getD X') (s ++ if (stepP C X' k a).isSome then ⟨#[121]⟩ else ⟨#[110]⟩) = R)
        clear I7 c7 cW cA I8 hdr hR hiv2 b5 b6 ec5 hq5 ha5 cD
        cases ho : (stepP C X' k a).isSome with
        | true =>
          have J2 := hid1 (by have q := J.out; rw [ho, if_pos rfl] at q; exact q)
          replace ho := hid1 ho
          have hcat : ∀ w, (Op.stringOp .add s ⟨#[121]⟩).run Try.prog w = .ok (.string (s ++ ⟨#[121]⟩)) w := fun w => run_string_add_sum w _ _ (by have := hss; show s.size + 1 ≤ _; omega)
          clear J
          go_wp2
          go_roundg (lA - (k + 1))
          case measure => omega
          case rel => exact ⟨k + 1, _, _, congrArg (Value.int .i64) (by omega), rfl, by omega, Nat.le_refl _, by rw [size_app, hss]; rfl, J2⟩
        | false =>
          have J2 := hid1 (by have q := J.out; rw [ho, if_neg (by decide)] at q; exact q)
          replace ho := hid1 ho
          have hcat : ∀ w, (Op.stringOp .add s ⟨#[110]⟩).run Try.prog w = .ok (.string (s ++ ⟨#[110]⟩)) w := fun w => run_string_add_sum w _ _ (by have := hss; show s.size + 1 ≤ _; omega)
          clear J
          go_wp2
          go_roundg (lA - (k + 1))
          case measure => omega
          case rel => exact ⟨k + 1, _, _, congrArg (Value.int .i64) (by omega), rfl, by omega, Nat.le_refl _, by rw [size_app, hss]; rfl, J2⟩
      have f9 : (a.kd == 9) = false := by simp [k9]
      have hb1 : hB a.kd = false := by unfold hB; simp [k1, k2, k8, k9]
      clear k1 k2 k8 k9
      go_upto_region 9 with fail
      obtain ⟨w5, rfl⟩ : ∃ w5, w5 = w4 := ⟨_, rfl⟩
      have b5 := b4
      have ec5 := ec4
      have hq5 := hq4
      have ha5 := ha4
      clear b4 ec4 hq4 ha4 d0 d1 d2
      have hds : dsO C X' a.cl a.kd a.nn (uN a.h) (uN a.x) (uN a.y) 0 (0) false = stepP C X' k a := by unfold stepP; rw [hb1]; rfl
      have hhw : (0) < 18446744073709551616 := by omega
      have b6 := b5.drew
      have I6 := I.out.1.below b6
      have hL6 : ∀ i, Lup L w wr i → i < w5.drew.heap.size := fun i hi => by
        rcases hi with hi | hi
        · exact Nat.lt_of_lt_of_le (hL.out i hi) (Nat.le_trans I.out.2.2.1.size b6.size)
        · exact Nat.lt_of_lt_of_le hi.2 b6.size
      have cD := does_M I6 hL6 I.out.2.1 (by omega) (by omega) hCa a.cl a.kd a.nn (uN_lt a.h) (uN_lt a.x) (uN_lt a.y) 0 hhw false
      rw [hds, show (((0 : Nat)) : Int) = 0 by omega] at cD
      replace cD := hid1 cD
      have hiv := hid1 (inv_get (who := a.cl) (kd := a.kd) (cN := a.nn) (cH := uN a.h) (cX := uN a.x) (cY := uN a.y) (aE := 0) (aY := false) I.out.2.1 (by obtain ⟨m0, h0⟩ := I.out.1; exact h0.nc) hCa hhw)
      have hiv2 : Hid (((stepP C X' k a).getD X').Inv (N + k + 1)) := hid1 (by have := hiv.out; rw [hds] at this; exact this)
      clear hiv hds hL6 I6
      refine wp_region_held_drew (S := fun wx => wx.heap[b]? = w.heap[b]? ∧ wx.heap[bq]? = some (.cells #[.int .i64 a.kd, .int .i64 a.nn, .int .u64 (uN a.h : Nat), .int .u64 (uN a.x : Nat), .int .u64 (uN a.y : Nat)] 37 (0, 0)) ∧ wx.heap[ba]? = some (.cells #[.int .i64 0, .int .u64 (0), .bool false] 41 (0, 0))) (by kernel_rfl) ⟨ec5, hq5, ha5⟩ (fun hS1 => ?_)
      refine wpAnyH_take (i := 0) (oi := { dst := some 70, op := Go.Op.move (Go.Operand.tmp 0), type := 23, pos := "law.go:238", after := #[], guard := none }) (v := .pointer (some ⟨B, 0, none⟩)) rfl (by kernel_rfl) (by kernel_rfl) (by kernel_rfl) (fun _ _ _ h => h) (Or.inl ⟨by rfl, fun w hSw => by (try dsimp only at hSw); go_simp⟩) hS1 ?_
      simp only [Act.put, List.setIfInBounds_toArray, List.set_cons_zero, List.set_cons_succ]
      refine wpAnyH_take (i := 1) (oi := { dst := some 71, op := Go.Op.move (Go.Operand.tmp 1), type := 22, pos := "law.go:238", after := #[], guard := none }) (v := .slice (some ⟨b, off, none⟩) lA cap) rfl (by kernel_rfl) (by kernel_rfl) (by kernel_rfl) (fun _ _ _ h => h) (Or.inl ⟨by rfl, fun w hSw => by (try dsimp only at hSw); go_simp⟩) hS1 ?_
      simp only [Act.put, List.setIfInBounds_toArray, List.set_cons_zero, List.set_cons_succ]
      refine wpAnyH_take (i := 2) (oi := { dst := some 72, op := Go.Op.move (Go.Operand.tmp 6), type := 3, pos := "law.go:238", after := #[], guard := none }) (v := .int .i64 (k : Nat)) rfl (by kernel_rfl) (by kernel_rfl) (by kernel_rfl) (fun _ _ _ h => h) (Or.inl ⟨by rfl, fun w hSw => by (try dsimp only at hSw); go_simp⟩) hS1 ?_
      simp only [Act.put, List.setIfInBounds_toArray, List.set_cons_zero, List.set_cons_succ]
      refine wpAnyH_take (i := 3) (oi := { dst := some 73, op := Go.Op.indexAddr 22 (Go.Operand.tmp 71) (Go.Operand.tmp 72), type := 0, pos := "law.go:238", after := #[{ on := 1, ground := Go.Ground.data }, { on := 2, ground := Go.Ground.data }], guard := none }) (v := .pointer (some ⟨b, off + k * 10, none⟩)) rfl (by kernel_rfl) (by kernel_rfl) (by kernel_rfl) (fun _ _ _ h => h) (Or.inl ⟨by rfl, fun w hSw => by (try dsimp only at hSw); go_simp⟩) hS1 ?_
      simp only [Act.put, List.setIfInBounds_toArray, List.set_cons_zero, List.set_cons_succ]
      refine wpAnyH_take (i := 4) (oi := { dst := some 74, op := Go.Op.fieldAddr 43 (Go.Operand.tmp 73) 0, type := 0, pos := "law.go:238", after := #[{ on := 3, ground := Go.Ground.data }], guard := none }) (v := .pointer (some ⟨b, off + k * 10, none⟩)) rfl (by kernel_rfl) (by kernel_rfl) (by kernel_rfl) (fun _ _ _ h => h) (Or.inl ⟨by rfl, fun w hSw => by (try dsimp only at hSw); go_simp⟩) hS1 ?_
      simp only [Act.put, List.setIfInBounds_toArray, List.set_cons_zero, List.set_cons_succ]
      refine wpAnyH_take (i := 5) (oi := { dst := some 75, op := Go.Op.load 3 (Go.Operand.tmp 74), type := 3, pos := "law.go:238", after := #[{ on := 4, ground := Go.Ground.data }], guard := none }) (v := .int .i64 a.cl) rfl (by kernel_rfl) (by kernel_rfl) (by kernel_rfl) (fun _ _ _ h => h) (Or.inl ⟨by rfl, fun w hSw => by (try dsimp only at hSw); obtain ⟨y0, y1, y2⟩ := hSw; obtain ⟨c0, c1, c2, c3, c4, c5⟩ := hc6.out w y0; go_simp⟩) hS1 ?_
      simp only [Act.put, List.setIfInBounds_toArray, List.set_cons_zero, List.set_cons_succ]
      refine wpAnyH_take (i := 6) (oi := { dst := some 76, op := Go.Op.load 37 (Go.Operand.tmp 7), type := 37, pos := "law.go:238", after := #[], guard := none }) (v := .agg #[.int .i64 a.kd, .int .i64 a.nn, .int .u64 (uN a.h : Nat), .int .u64 (uN a.x : Nat), .int .u64 (uN a.y : Nat)]) rfl (by kernel_rfl) (by kernel_rfl) (by kernel_rfl) (fun _ _ _ h => h) (Or.inl ⟨by rfl, fun w hSw => by (try dsimp only at hSw); obtain ⟨y0, y1, y2⟩ := hSw; obtain ⟨c0, c1, c2, c3, c4⟩ := call_cells y1; go_simp⟩) hS1 ?_
      simp only [Act.put, List.setIfInBounds_toArray, List.set_cons_zero, List.set_cons_succ]
      refine wpAnyH_take (i := 7) (oi := { dst := some 77, op := Go.Op.load 41 (Go.Operand.tmp 8), type := 41, pos := "law.go:238", after := #[], guard := none }) (v := .agg #[.int .i64 0, .int .u64 (0), .bool false]) rfl (by kernel_rfl) (by kernel_rfl) (by kernel_rfl) (fun _ _ _ h => h) (Or.inl ⟨by rfl, fun w hSw => by (try dsimp only at hSw); obtain ⟨y0, y1, y2⟩ := hSw; obtain ⟨c0, c1, c2⟩ := ans_cells y2; go_simp⟩) hS1 ?_
      simp only [Act.put, List.setIfInBounds_toArray, List.set_cons_zero, List.set_cons_succ]
      refine wpAnyH_ready (rs := [8]) (by kernel_rfl) (by simp) (AllReadyH.cons (o := { dst := some 78, op := Go.Op.call { callee := Go.Callee.value (Go.Operand.func 16), args := #[Go.Operand.tmp 70, Go.Operand.tmp 75, Go.Operand.tmp 76, Go.Operand.tmp 77], argTypes := #[23, 3, 37, 41] }, type := 4, pos := "law.go:238", after := #[{ on := 0, ground := Go.Ground.data }, { on := 5, ground := Go.Ground.data }, { on := 6, ground := Go.Ground.data }, { on := 7, ground := Go.Ground.data }], guard := none }) rfl (fun K hK => ?_) AllReadyH.nil)
      go_simp
      go_at_call 16
      with_reducible refine cD.out.mono ?_
      rintro r w7 ⟨rfl, I7, c7⟩
      (try simp only [])
      have cW : Chg (Lup L w wr) wr w7 := (Chg.of_below b6).trans (c7.widen b6)
      have cA := I.out.2.2.1.trans cW
      have ec7 : w7.heap[b]? = w.heap[b]? := cA.block b hb hbL
      have nL : ∀ q, wr.heap.size ≤ q → ¬ Lup L w wr q := fun q hq hl => by
        rcases hl with hl | hl
        · have := hL.out q hl; have := I.out.2.2.1.size; omega
        · omega
      have hq7 := (c7.block bq (lt_of_block (show w5.drew.heap[bq]? = _ from hq5)) (nL bq (by omega))).trans hq5
      have ha7 := (c7.block ba (lt_of_block (show w5.drew.heap[ba]? = _ from ha5)) (nL ba (by omega))).trans ha5
      refine hK.out _ _ ⟨ec7, hq7, ha7⟩ (fun hS1 => ?_)
      (try simp only [Act.put, List.setIfInBounds_toArray, List.set_cons_zero, List.set_cons_succ])
      clear hK K
      refine wpAnyH_done (by kernel_rfl) ?_ _
      clear hS1 ec7 hq7 ha7 nL
      have I8 := I7.up (L' := Lup L w w7) (fun q hq => by
        have s1 := b6.size
        have s2 := c7.size
        have s3 := I.out.2.2.1.size
        rcases hq with (hq | hq) | hq
        · exact .inl hq
        · exact .inr ⟨hq.1, by omega⟩
        · exact .inr ⟨by omega, hq.2⟩)
      have hdr : A.drop k = a :: A.drop (k + 1) := by rw [List.drop_eq_getElem_cons (by have := hlA.out; omega)]; congr 1; have e := ha; rw [List.getElem?_eq_getElem (by have := hlA.out; omega)] at e; exact Option.some.inj e
      have hR := I.out.2.2.2
      rw [hdr] at hR
      replace hR : playsF C (A.drop (k + 1)) (k + 1) ((stepP C X' k a).getD X') (s ++ if (stepP C X' k a).isSome then ⟨#[121]⟩ else ⟨#[110]⟩) = R := hR
      have J := hid1 (⟨I8, hiv2.out, cA, hR⟩ : IsM w7 B (Lup L w w7) C (n + 2 * (k + 1)) ((stepP C X' k a).getD X') ∧ ((stepP C X' k a).getD X').Inv (N + (k + 1)) ∧ Chg L w w7 ∧ playsF C (A.drop (k + 1)) (k + 1) ((stepP C X' k a).getD X') (s ++ if (stepP C X' k a).isSome then ⟨#[121]⟩ else ⟨#[110]⟩) = R)
      clear I7 c7 cW cA I8 hdr hR hiv2 b5 b6 ec5 hq5 ha5 cD
      cases ho : (stepP C X' k a).isSome with
      | true =>
        have J2 := hid1 (by have q := J.out; rw [ho, if_pos rfl] at q; exact q)
        replace ho := hid1 ho
        have hcat : ∀ w, (Op.stringOp .add s ⟨#[121]⟩).run Try.prog w = .ok (.string (s ++ ⟨#[121]⟩)) w := fun w => run_string_add_sum w _ _ (by have := hss; show s.size + 1 ≤ _; omega)
        clear J
        go_wp2
        go_roundg (lA - (k + 1))
        case measure => omega
        case rel => exact ⟨k + 1, _, _, congrArg (Value.int .i64) (by omega), rfl, by omega, Nat.le_refl _, by rw [size_app, hss]; rfl, J2⟩
      | false =>
        have J2 := hid1 (by have q := J.out; rw [ho, if_neg (by decide)] at q; exact q)
        replace ho := hid1 ho
        have hcat : ∀ w, (Op.stringOp .add s ⟨#[110]⟩).run Try.prog w = .ok (.string (s ++ ⟨#[110]⟩)) w := fun w => run_string_add_sum w _ _ (by have := hss; show s.size + 1 ≤ _; omega)
        clear J
        go_wp2
        go_roundg (lA - (k + 1))
        case measure => omega
        case rel => exact ⟨k + 1, _, _, congrArg (Value.int .i64) (by omega), rfl, by omega, Nat.le_refl _, by rw [size_app, hss]; rfl, J2⟩
    · obtain rfl : k = lA := by omega
      have hlz : ¬ (k : Int) < (k : Int) := by omega
      obtain ⟨i1, i2, i3, i4⟩ := I.out
      have hdr : A.drop k = [] := List.drop_eq_nil_of_le (by have := hlA.out; omega)
      rw [hdr] at i4
      replace i4 : (X', s) = R := i4
      replace i1 := hid1 i1
      replace i2 := hid1 i2
      replace i3 := hid1 i3
      replace i4 := hid1 i4
      go_wp2
      go_ret
      rw [← i4.out]
      exact ⟨rfl, i1.out, i2.out, i3.out⟩
end Go.Proofs.Ytcccmmhpingmnaa
