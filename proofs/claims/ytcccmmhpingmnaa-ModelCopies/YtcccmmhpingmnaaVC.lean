/- New: a model of two clients, in which nothing is; and none. -/
import Derived.Test.YtcccmmhpingmnaaVB2
namespace Go.Proofs.Ytcccmmhpingmnaa
open Go.RowKit

theorem IsHd.made_at {w : World} {b : Nat} (h : w.heap[b]? = some (.map #[] 0)) (k : Int) : IsHd w b 0 k [] := by
  obtain ⟨D, ⟨es, c, h1, h2⟩, h3⟩ := IsHd.made w k
  rw [new_obj] at h1
  simp only [Option.some.injEq, Obj.map.injEq] at h1
  obtain ⟨rfl, rfl⟩ := h1
  exact ⟨D, ⟨#[], 0, h, h2⟩, h3⟩
theorem IsGv.made_at {w : World} {b : Nat} (h : w.heap[b]? = some (.map #[] 0)) : IsGv w b 0 [] := by
  obtain ⟨D, ⟨es, c, h1, h2⟩, h3⟩ := IsGv.made w
  rw [new_obj] at h1
  simp only [Option.some.injEq, Obj.map.injEq] at h1
  obtain ⟨rfl, rfl⟩ := h1
  exact ⟨D, ⟨#[], 0, h, h2⟩, h3⟩
/-- Nothing is. -/
def sx0 (c : Nat) : Sx := ⟨[], [], List.replicate c 0, List.replicate c [], []⟩
theorem sx0_inv (c : Nat) : (sx0 c).Inv 0 where
  ok := ⟨fun x hx => (List.not_mem_nil hx).elim, fun L hL => (List.not_mem_nil hL).elim, fun L hL x hx => by
    have e : L = [] := (List.mem_replicate.1 hL).2
    rw [e] at hx; exact (List.not_mem_nil hx).elim⟩
  nd := List.nodup_nil
  hG := fun x hx => by cases hx
  g0 := fun h => by cases h
  cl := fun x hx => by cases hx
  nF := Nat.le_refl _
  nH := Nat.le_refl _
  nG := Nat.le_refl _
  row := fun L hL => by cases hL
  M2 := by show (List.replicate c ([] : List Int)).length = (List.replicate c 0).length; rw [List.length_replicate, List.length_replicate]
  com := fun L hL => by
    have e : L = [] := (List.mem_replicate.1 hL).2
    rw [e]; exact Nat.le_refl _
  bG := fun h hh => by cases hh
  bW := fun h hh => by
    have e : h = 0 := (List.mem_replicate.1 hh).2
    rw [e]; decide
theorem wkF_sx0 (c : Nat) (k : Int) : wkF (sx0 c) k = 0 := by
  unfold wkF
  show (List.replicate c 0).getD k.toNat 0 = 0
  rw [List.getD_eq_getElem?_getD, List.getElem?_replicate]
  split <;> rfl
theorem cmF_sx0 (c : Nat) (k : Int) : cmF (sx0 c) k = [] := by
  unfold cmF
  show (List.replicate c ([] : List Int)).getD k.toNat [] = []
  rw [List.getD_eq_getElem?_getD, List.getElem?_replicate]
  split <;> rfl
/-- Blocks that came since. -/
def Lb (b : Nat) (w : World) (i : Nat) : Prop := b ≤ i ∧ i < w.heap.size
theorem nw_model {w w' : World} {B : Nat} {C : Cg} (h : NwR w w' B C.c C.s C.a C.d C.g C.k) : IsM w' B (Lb w.heap.size w') C 0 (sx0 C.c) := by
  obtain ⟨Bc, bG, bs, bel, hB, hc, hG, hm, hlt, hinj, hne⟩ := h
  exact ⟨⟨.slice none 0 0, [], Bc, bG, bs, fun _ => .slice none 0 0, C.c, #[]⟩, {
    nc := by show (List.replicate C.c 0).length = C.c; rw [List.length_replicate]
    head := hB
    cl := by
      have e : (fun k : Nat => wkF (sx0 C.c) k) = fun _ => 0 := funext fun k => wkF_sx0 C.c k
      rw [e]
      have e2 : clA bs C.c C.c = clC #[] bs (fun _ => .slice none 0 0) (fun _ => 0) C.c := by
        apply Array.ext_getElem?
        intro q
        rw [clA_at, clC_at]
        by_cases hq : q < 3 * C.c
        · rw [if_pos hq, if_pos hq, if_pos (by omega : q / 3 < C.c)]; rfl
        · rw [if_neg hq, if_neg hq]; rfl
      rw [← e2]
      exact hc
    nodes := ⟨rfl, .inl ⟨rfl, rfl⟩⟩
    row := fun i K r hK => by cases hK
    dis := fun i j r r' g hr => by cases hr
    hs := fun k hk => IsHd.made_at (hm k hk) k
    gv := IsGv.made_at hG
    ms := fun k hk => by rw [cmF_sx0]; exact IsZ.nil _
    d0 := fun r hr => by cases hr
    mb := ⟨fun i j hi hj e => hinj i j hi hj e, fun k hk => hne k hk⟩
    LB := ⟨⟨hlt.1, lt_of_block hB⟩, ⟨hlt.2.1, lt_of_block hc⟩, fun k hk => ⟨hlt.2.2.2 k hk, lt_of_block (hm k hk)⟩, ⟨hlt.2.2.1, lt_of_block hG⟩⟩
    LN := fun g hg => by cases hg
    LR := fun r hr => by cases hr
    LM := fun k hk g hg => (by cases hg) }⟩
theorem new_yes (C : Cg) (hR : rightB C.s C.a (C.c : Nat) C.d C.g C.k = true) (w : World) :
    Calls Try.prog 9 #[.agg (cs C.s C.a (C.c : Nat) C.d C.g C.k)] w fun r w' => ∃ B, r = .returned (.pointer (some ⟨B, 0, none⟩)) ∧ Below w.heap.size w w' ∧ IsM w' B (Lb w.heap.size w') C 0 (sx0 C.c) :=
  (new_any C.s C.a C.d C.g C.k C.c hR w).mono fun r w' ⟨B, h1, h2⟩ => ⟨B, h1, by obtain ⟨_, _, _, b, _⟩ := h2; exact b, nw_model h2⟩

set_option maxHeartbeats 4000000 in
theorem new_no (s a c d g k : Int) (hR : rightB s a c d g k = false) (w : World) :
    Calls Try.prog 9 #[.agg (cs s a c d g k)] w fun r w' => r = .returned (.pointer none) ∧ Below w.heap.size w w' := by
  have cR := right_any s a c d g k
  rw [hR] at cR
  have bel0 := alloc_below w (.cells #[.int .i64 s, .int .i64 a, .int .i64 c, .int .i64 d, .int .i64 g, .int .i64 k] 26)
  have hb0 := new_obj w (.cells #[.int .i64 s, .int .i64 a, .int .i64 c, .int .i64 d, .int .i64 g, .int .i64 k] 26)
  go_enter Try.func9, Try.ntmps9
  go_upto_region 1 with fail
  generalize w.alloc (.cells #[.int .i64 s, .int .i64 a, .int .i64 c, .int .i64 d, .int .i64 g, .int .i64 k] 26) = w1 at *
  generalize hc0 : w.heap.size = c0 at *
  replace hc0 := hid1 hc0
  have s0 : w1.cell? ⟨c0, 0, none⟩ = some (.int .i64 s) := by simp [World.cell?, hb0]
  have s1 : w1.cell? ⟨c0, 1, none⟩ = some (.int .i64 a) := by simp [World.cell?, hb0]
  have s2 : w1.cell? ⟨c0, 2, none⟩ = some (.int .i64 c) := by simp [World.cell?, hb0]
  have s3 : w1.cell? ⟨c0, 3, none⟩ = some (.int .i64 d) := by simp [World.cell?, hb0]
  have s4 : w1.cell? ⟨c0, 4, none⟩ = some (.int .i64 g) := by simp [World.cell?, hb0]
  have s5 : w1.cell? ⟨c0, 5, none⟩ = some (.int .i64 k) := by simp [World.cell?, hb0]
  have lt0 := lt_of_block hb0
  unfold cs at cR
  go_wp2_with (go_at_call 26; with_reducible refine (cR _).mono ?_; rintro e w2 ⟨rfl, b2⟩)
  go_ret
  exact ⟨rfl, by rw [hc0.out]; exact bel0.trans (b2.mono (Nat.le_of_lt lt0))⟩
theorem new_some (s a c d g k : Int) (hR : rightB s a c d g k = true) (w : World) :
    Calls Try.prog 9 #[.agg (cs s a c d g k)] w fun r w' => ∃ B, r = .returned (.pointer (some ⟨B, 0, none⟩)) ∧ Below w.heap.size w w' := by
  have hc := (rightB_iff.1 hR).2.2.1
  obtain ⟨n, rfl⟩ : ∃ n : Nat, c = n := ⟨c.toNat, by omega⟩
  exact (new_any s a d g k n hR w).mono fun r w' ⟨B, h1, h2⟩ => ⟨B, h1, by obtain ⟨_, _, _, b, _⟩ := h2; exact b⟩
theorem does_M {w : World} {B : Nat} {L : Nat → Prop} {C : Cg} {n : Nat} {X : Sx} (h : IsM w B L C n X) (hL : ∀ i, L i → i < w.heap.size) {N : Nat} (iv : X.Inv N) (hN : N < 1000000) (hn : n < 1000000) (hCa : C.a ≤ 8) (who kd cN : Int) {cH cX cY : Nat} (hcH : cH < 18446744073709551616) (hcX : cX < 18446744073709551616) (hcY : cY < 18446744073709551616) (aE : Int) {aH : Nat} (hH : aH < 18446744073709551616) (aY : Bool) :
    Calls Try.prog 16 #[.pointer (some ⟨B, 0, none⟩), .int .i64 who, .agg #[.int .i64 kd, .int .i64 cN, .int .u64 (cH : Nat), .int .u64 (cX : Nat), .int .u64 (cY : Nat)], .agg #[.int .i64 aE, .int .u64 (aH : Nat), .bool aY]] w fun r w' => r = .returned (.bool (dsO C X who kd cN cH cX cY aE aH aY).isSome) ∧ IsM w' B (Lup L w w') C (n + 2) ((dsO C X who kd cN cH cX cY aE aH aY).getD X) ∧ Chg L w w' := by
  obtain ⟨m, h⟩ := h
  exact does_any h hL iv hN hn hCa who kd cN hcH hcX hcY aE hH aY
theorem Lb.lup {b : Nat} {w w' : World} (hb : b ≤ w.heap.size) (hs : w.heap.size ≤ w'.heap.size) : ∀ i, Lup (Lb b w) w w' i → Lb b w' i := fun i h => by
  rcases h with ⟨h1, h2⟩ | ⟨h1, h2⟩
  · exact ⟨h1, by omega⟩
  · exact ⟨by omega, h2⟩
/-- The same, where all blocks since b may be the model's. -/
theorem does_Lb {b : Nat} {w0 w : World} {B : Nat} {C : Cg} {n : Nat} {X : Sx} (h : IsM w B (Lb b w) C n X) (b0 : Below b w0 w) (hb : b ≤ w0.heap.size) {N : Nat} (iv : X.Inv N) (hN : N < 1000000) (hn : n < 1000000) (hCa : C.a ≤ 8) (who kd cN : Int) {cH cX cY : Nat} (hcH : cH < 18446744073709551616) (hcX : cX < 18446744073709551616) (hcY : cY < 18446744073709551616) (aE : Int) {aH : Nat} (hH : aH < 18446744073709551616) (aY : Bool) :
    Calls Try.prog 16 #[.pointer (some ⟨B, 0, none⟩), .int .i64 who, .agg #[.int .i64 kd, .int .i64 cN, .int .u64 (cH : Nat), .int .u64 (cX : Nat), .int .u64 (cY : Nat)], .agg #[.int .i64 aE, .int .u64 (aH : Nat), .bool aY]] w fun r w' => r = .returned (.bool (dsO C X who kd cN cH cX cY aE aH aY).isSome) ∧ IsM w' B (Lb b w') C (n + 2) ((dsO C X who kd cN cH cX cY aE aH aY).getD X) ∧ Below b w0 w' :=
  (does_M h (fun _ hi => hi.2) iv hN hn hCa who kd cN hcH hcX hcY aE hH aY).mono fun _ _ ⟨h1, h2, h3⟩ =>
    ⟨h1, h2.up (Lb.lup (Nat.le_trans hb b0.size) h3.size), h3.below b0 (fun _ hi => hi.1) hb⟩
end Go.Proofs.Ytcccmmhpingmnaa
