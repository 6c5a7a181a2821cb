/- New: a model of two clients, in which nothing is; and none. -/
import Derived.Test.YtfllkacebhcbdaaVB2
namespace Go.Proofs.Ytfllkacebhcbdaa
open Go.RowKit

theorem IsHd.made_at {w : World} {b : Nat} (h : w.heap[b]? = some (.map #[] 0)) (k : Int) : IsHd w b 0 k [] := by
  obtain ⟨D, ⟨es, c, h1, h2⟩, h3⟩ := IsHd.made w k
  rw [new_obj] at h1
  simp only [Option.some.injEq, Obj.map.injEq] at h1
  obtain ⟨rfl, rfl⟩ := h1
  exact ⟨D, ⟨#[], 0, h, h2⟩, h3⟩
theorem IsGv.made_at {w : World} {b : Nat} (h : w.heap[b]? = some (.map #[] 0)) : IsGv w b 0 [] := by
  obtain ⟨D, ⟨es, c, h1, h2⟩, h3⟩ := IsGv.made w
  rw [new_obj] at h1
  simp only [Option.some.injEq, Obj.map.injEq] at h1
  obtain ⟨rfl, rfl⟩ := h1
  exact ⟨D, ⟨#[], 0, h, h2⟩, h3⟩
/-- Nothing is. -/
def sx0 : Sx := ⟨[], [], [0, 0], [[], []], []⟩
theorem sx0_inv : sx0.Inv 0 where
  ok := by
    have e : ∀ L ∈ [([] : List Int), []], L = [] := fun L hL => by simpa using hL
    exact ⟨fun x hx => (List.not_mem_nil hx).elim, fun L hL => (List.not_mem_nil hL).elim, fun L hL x hx => by rw [e L hL] at hx; exact (List.not_mem_nil hx).elim⟩
  nd := List.nodup_nil
  hG := fun x hx => by cases hx
  g0 := fun h => by cases h
  cl := fun x hx => by cases hx
  nF := Nat.le_refl _
  nH := Nat.le_refl _
  nG := Nat.le_refl _
  row := fun L hL => by cases hL
  W2 := rfl
  M2 := rfl
  com := fun L hL => by
    have hL' : L ∈ [([] : List Int), []] := hL
    rcases List.mem_cons.1 hL' with rfl | hL'
    · exact Nat.le_refl _
    · rcases List.mem_cons.1 hL' with rfl | hL'
      · exact Nat.le_refl _
      · cases hL'
  bG := fun h hh => by cases hh
  bW := fun h hh => by
    have hh' : h ∈ [0, 0] := hh
    rcases List.mem_cons.1 hh' with rfl | hh'
    · decide
    · rcases List.mem_cons.1 hh' with rfl | hh'
      · decide
      · cases hh'
/-- Blocks that came since. -/
def Lb (b : Nat) (w : World) (i : Nat) : Prop := b ≤ i ∧ i < w.heap.size
theorem nw_model {w w' : World} {B : Nat} {C : Cg} (h : NwR w w' B 2 C.s C.a C.d C.g C.k) : IsM w' B (Lb w.heap.size w') C 0 sx0 := by
  obtain ⟨Bc, bG, bs, bel, hB, hc, hG, hm, hlt, hinj, hne⟩ := h
  rw [clA_two] at hc
  have m0 := hm 0 (by omega)
  have m1 := hm 1 (by omega)
  exact ⟨⟨.slice none 0 0, [], Bc, bG, bs 0, bs 1, .slice none 0 0, .slice none 0 0⟩, {
    head := hB
    cl := hc
    nodes := ⟨rfl, .inl ⟨rfl, rfl⟩⟩
    row := fun i K r hK => by cases hK
    dis := fun i j r r' g hr => by cases hr
    h0 := IsHd.made_at m0 0
    h1 := IsHd.made_at m1 1
    gv := IsGv.made_at hG
    m0 := IsZ.nil _
    m1 := IsZ.nil _
    d0 := fun r hr => by cases hr
    mb := ⟨fun e => by have := hinj 0 1 (by omega) (by omega) e; omega, hne 0 (by omega), hne 1 (by omega)⟩
    LB := ⟨⟨hlt.1, lt_of_block hB⟩, ⟨hlt.2.1, lt_of_block hc⟩, ⟨hlt.2.2.2 0 (by omega), lt_of_block m0⟩, ⟨hlt.2.2.2 1 (by omega), lt_of_block m1⟩, ⟨hlt.2.2.1, lt_of_block hG⟩⟩
    LN := fun g hg => by cases hg
    LR := fun r hr => by cases hr
    LM := ⟨fun g hg => (by cases hg), fun g hg => (by cases hg)⟩ }⟩
theorem new_two (C : Cg) (hR : rightB C.s C.a 2 C.d C.g C.k = true) (w : World) :
    Calls Try.prog 15 #[.agg (cs C.s C.a 2 C.d C.g C.k)] w fun r w' => ∃ B, r = .returned (.pointer (some ⟨B, 0, none⟩)) ∧ Below w.heap.size w w' ∧ IsM w' B (Lb w.heap.size w') C 0 sx0 :=
  (new_any C.s C.a C.d C.g C.k 2 hR w).mono fun r w' ⟨B, h1, h2⟩ => ⟨B, h1, by obtain ⟨_, _, _, b, _⟩ := h2; exact b, nw_model h2⟩

set_option maxHeartbeats 4000000 in
theorem new_no (s a c d g k : Int) (hR : rightB s a c d g k = false) (w : World) :
    Calls Try.prog 15 #[.agg (cs s a c d g k)] w fun r w' => r = .returned (.pointer none) ∧ Below w.heap.size w w' := by
  have cR := right_any s a c d g k
  rw [hR] at cR
  have bel0 := alloc_below w (.cells #[.int .i64 s, .int .i64 a, .int .i64 c, .int .i64 d, .int .i64 g, .int .i64 k] 40)
  have hb0 := new_obj w (.cells #[.int .i64 s, .int .i64 a, .int .i64 c, .int .i64 d, .int .i64 g, .int .i64 k] 40)
  go_enter Try.func15, Try.ntmps15
  go_upto_region 1 with fail
  generalize w.alloc (.cells #[.int .i64 s, .int .i64 a, .int .i64 c, .int .i64 d, .int .i64 g, .int .i64 k] 40) = w1 at *
  generalize hc0 : w.heap.size = c0 at *
  replace hc0 := hid1 hc0
  have s0 : w1.cell? ⟨c0, 0, none⟩ = some (.int .i64 s) := by simp [World.cell?, hb0]
  have s1 : w1.cell? ⟨c0, 1, none⟩ = some (.int .i64 a) := by simp [World.cell?, hb0]
  have s2 : w1.cell? ⟨c0, 2, none⟩ = some (.int .i64 c) := by simp [World.cell?, hb0]
  have s3 : w1.cell? ⟨c0, 3, none⟩ = some (.int .i64 d) := by simp [World.cell?, hb0]
  have s4 : w1.cell? ⟨c0, 4, none⟩ = some (.int .i64 g) := by simp [World.cell?, hb0]
  have s5 : w1.cell? ⟨c0, 5, none⟩ = some (.int .i64 k) := by simp [World.cell?, hb0]
  have lt0 := lt_of_block hb0
  unfold cs at cR
  go_wp2_with (go_at_call 18; with_reducible refine (cR _).mono ?_; rintro e w2 ⟨rfl, b2⟩)
  go_ret
  exact ⟨rfl, by rw [hc0.out]; exact bel0.trans (b2.mono (Nat.le_of_lt lt0))⟩
theorem new_some (s a c d g k : Int) (hR : rightB s a c d g k = true) (w : World) :
    Calls Try.prog 15 #[.agg (cs s a c d g k)] w fun r w' => ∃ B, r = .returned (.pointer (some ⟨B, 0, none⟩)) ∧ Below w.heap.size w w' := by
  have hc := (rightB_iff.1 hR).2.2.1
  obtain ⟨n, rfl⟩ : ∃ n : Nat, c = n := ⟨c.toNat, by omega⟩
  exact (new_any s a d g k n hR w).mono fun r w' ⟨B, h1, h2⟩ => ⟨B, h1, by obtain ⟨_, _, _, b, _⟩ := h2; exact b⟩
theorem does_M {w : World} {B : Nat} {L : Nat → Prop} {C : Cg} {n : Nat} {X : Sx} (h : IsM w B L C n X) (hL : ∀ i, L i → i < w.heap.size) {N : Nat} (iv : X.Inv N) (hN : N < 1000000) (hn : n < 1000000) (hCa : C.a ≤ 8) (who kd cN : Int) {cH cX cY : Nat} (hcH : cH < 18446744073709551616) (hcX : cX < 18446744073709551616) (hcY : cY < 18446744073709551616) (aE : Int) {aH : Nat} (hH : aH < 18446744073709551616) (aY : Bool) :
    Calls Try.prog 20 #[.pointer (some ⟨B, 0, none⟩), .int .i64 who, .agg #[.int .i64 kd, .int .i64 cN, .int .u64 (cH : Nat), .int .u64 (cX : Nat), .int .u64 (cY : Nat)], .agg #[.int .i64 aE, .int .u64 (aH : Nat), .bool aY]] w fun r w' => r = .returned (.bool (dsO C X who kd cN cH cX cY aE aH aY).isSome) ∧ IsM w' B (Lup L w w') C (n + 2) ((dsO C X who kd cN cH cX cY aE aH aY).getD X) ∧ Chg L w w' := by
  obtain ⟨m, h⟩ := h
  exact does_any h hL iv hN hn hCa who kd cN hcH hcX hcY aE hH aY
theorem Lb.lup {b : Nat} {w w' : World} (hb : b ≤ w.heap.size) (hs : w.heap.size ≤ w'.heap.size) : ∀ i, Lup (Lb b w) w w' i → Lb b w' i := fun i h => by
  rcases h with ⟨h1, h2⟩ | ⟨h1, h2⟩
  · exact ⟨h1, by omega⟩
  · exact ⟨by omega, h2⟩
/-- The same, where all blocks since b may be the model's. -/
theorem does_Lb {b : Nat} {w0 w : World} {B : Nat} {C : Cg} {n : Nat} {X : Sx} (h : IsM w B (Lb b w) C n X) (b0 : Below b w0 w) (hb : b ≤ w0.heap.size) {N : Nat} (iv : X.Inv N) (hN : N < 1000000) (hn : n < 1000000) (hCa : C.a ≤ 8) (who kd cN : Int) {cH cX cY : Nat} (hcH : cH < 18446744073709551616) (hcX : cX < 18446744073709551616) (hcY : cY < 18446744073709551616) (aE : Int) {aH : Nat} (hH : aH < 18446744073709551616) (aY : Bool) :
    Calls Try.prog 20 #[.pointer (some ⟨B, 0, none⟩), .int .i64 who, .agg #[.int .i64 kd, .int .i64 cN, .int .u64 (cH : Nat), .int .u64 (cX : Nat), .int .u64 (cY : Nat)], .agg #[.int .i64 aE, .int .u64 (aH : Nat), .bool aY]] w fun r w' => r = .returned (.bool (dsO C X who kd cN cH cX cY aE aH aY).isSome) ∧ IsM w' B (Lb b w') C (n + 2) ((dsO C X who kd cN cH cX cY aE aH aY).getD X) ∧ Below b w0 w' :=
  (does_M h (fun _ hi => hi.2) iv hN hn hCa who kd cN hcH hcX hcY aE hH aY).mono fun _ _ ⟨h1, h2, h3⟩ =>
    ⟨h1, h2.up (Lb.lup (Nat.le_trans hb b0.size) h3.size), h3.below b0 (fun _ hi => hi.1) hb⟩
end Go.Proofs.Ytfllkacebhcbdaa
