/- The law of a new memory, walked. -/
import Derived.Test.YtcpbfbdmfkhaeabPRmem
import Derived.Deep.RegionHeld
namespace Go.Proofs.Ytcpbfbdmfkhaeab
open Go.RowKit
open Mm (IsWords IsMem zeroMS wordsOf made_words of_grown Only)

set_option maxHeartbeats 2000000 in
theorem memories_no {s a c d g k : Int} (hr : rightB s a c d g k = false) (w : World) : Calls Try.prog 6 #[.agg (cs s a c d g k)] w fun e w' => e = .returned (.bool true) ∧ Below w.heap.size w w' := by
  have c1 := rright_any s a c d g k
  rw [hr] at c1
  have c2 := memory_no hr
  have c4 := awake_any
  clear hr
  have bel := alloc_below w (.cells #[.int .i64 s, .int .i64 a, .int .i64 c, .int .i64 d, .int .i64 g, .int .i64 k] 23)
  have hh := cfg_new w s a c d g k
  go_enter Try.func6, Try.ntmps6
  go_upto_region 1 with fail
  generalize w.alloc (.cells #[.int .i64 s, .int .i64 a, .int .i64 c, .int .i64 d, .int .i64 g, .int .i64 k] 23) = w0 at *
  obtain ⟨l0, l1, l2, l3, l4, l5⟩ := hh.cells
  go_wp2_with (first
    | (go_at_call 8; refine (c1 _).mono ?_; rintro e w1 ⟨rfl, b⟩; replace bel := seq_below bel b; replace hh := hh.below b; obtain ⟨l0, l1, l2, l3, l4, l5⟩ := hh.cells)
    | (go_at_call 22; refine (c2 _).mono ?_; rintro e w1 ⟨rfl, b⟩; replace bel := seq_below bel b; replace hh := hh.below b; obtain ⟨l0, l1, l2, l3, l4, l5⟩ := hh.cells)
    | (go_at_call 12; refine (c4 _).mono ?_; rintro e w1 ⟨rfl, b⟩; replace bel := seq_below bel b))
  go_ret
  exact ⟨rfl, bel⟩

theorem words_n {M G N : Nat} {X : List Nat} {w : World} (h : IsMem w M G (zeroMS X)) (hN : X.length = N) (hl : N ≤ 65536) :
    Calls Try.prog 24 #[.pointer (some ⟨M, 0, none⟩)] w fun e w' => ∃ R, e = .returned (.slice (some ⟨R, 0, none⟩) N N) ∧ IsWords w' R X ∧ w.heap.size ≤ R ∧ Below w.heap.size w w' := by
  subst hN
  exact Mm.words_any h hl
theorem same_n {R Q N : Nat} {X : List Nat} {w : World} (h1 : IsWords w R X) (h2 : IsWords w Q X) (hN : X.length = N) (hl : N ≤ 65536) :
    Calls Try.prog 23 #[.slice (some ⟨R, 0, none⟩) N N, .slice (some ⟨Q, 0, none⟩) N N] w fun e w' => e = .returned (.bool true) ∧ Below w.heap.size w w' := by
  subst hN
  exact (Mm.same_yes h1 h2 hl).mono fun e w' ⟨h1, m, h2⟩ => ⟨h1, h2 ▸ below_drewN (Below.refl _ _) _⟩

theorem mkS {w0 w' : World} {M G : Nat} {X : List Nat} {s a c d g k : Int} (hm : IsMem w' M G (zeroMS X)) (hh : IsCfg w' w0.heap.size s a c d g k) (bel : Below w0.heap.size w0 w') :
    (IsMem w' M G (zeroMS X) ∧ IsCfg w' w0.heap.size s a c d g k ∧ Below w0.heap.size w0 w') ∧ w'.cell? ⟨w0.heap.size, 0, none⟩ = some (.int .i64 s) ∧ w'.cell? ⟨w0.heap.size, 1, none⟩ = some (.int .i64 a) ∧ w'.cell? ⟨w0.heap.size, 2, none⟩ = some (.int .i64 c) ∧ w'.cell? ⟨w0.heap.size, 3, none⟩ = some (.int .i64 d) ∧ w'.cell? ⟨w0.heap.size, 4, none⟩ = some (.int .i64 g) ∧ w'.cell? ⟨w0.heap.size, 5, none⟩ = some (.int .i64 k) :=
  ⟨⟨hm, hh, bel⟩, hh.cells⟩

set_option maxHeartbeats 4000000 in
theorem memories_yes {C D S B : Nat} {a g k : Int} (hr : rightB S a C D g k = true) (hB : bsI a = (B : Int)) (hB8 : B ≤ 8) (hC : C ≤ 8) (hD : D ≤ 16) (hS : S ≤ 64) (hS1 : 1 ≤ S) (hD1 : 1 ≤ D) (w : World) :
    Calls Try.prog 6 #[.agg (cs S a C D g k)] w fun e w' => e = .returned (.bool true) ∧ Below w.heap.size w w' := by
  have c1 := rright_any S a C D g k
  rw [hr] at c1
  have c2 := memory_yes (g := g) (k := k) hr hB hB8 hC hD hS hS1 hD1
  have c3 := rmemory_any C D S B a g k hB hB8 hC hD hS hD1
  have c4 := awake_any
  have hN := (nW_b hC hD hS hB8).2
  have hlen := memX_len C D B (nW C D B S) (S - 1)
  clear hr hB hC hD
  generalize memX C D B (nW C D B S) (S - 1) = X at *
  generalize nW C D B S = N at *
  generalize (S : Int) = s at *
  generalize (C : Int) = c at *
  generalize (D : Int) = d at *
  have bel := alloc_below w (.cells #[.int .i64 s, .int .i64 a, .int .i64 c, .int .i64 d, .int .i64 g, .int .i64 k] 23)
  have hh := cfg_new w s a c d g k
  go_enter Try.func6, Try.ntmps6
  go_upto_region 1 with fail
  generalize w.alloc (.cells #[.int .i64 s, .int .i64 a, .int .i64 c, .int .i64 d, .int .i64 g, .int .i64 k] 23) = w0 at *
  obtain ⟨l0, l1, l2, l3, l4, l5⟩ := hh.cells
  go_upto_region 4 with (first
    | (go_at_call 8; refine (c1 _).mono ?_; rintro e w2 ⟨rfl, b⟩; replace bel := seq_below bel b; replace hh := hh.below b; replace hm := hm.below b; obtain ⟨l0, l1, l2, l3, l4, l5⟩ := hh.cells)
    | (go_at_call 22; refine (c2 _).mono ?_; rintro e w1 ⟨M, G, rfl, hm, _, _, b⟩; replace bel := seq_below bel b; replace hh := hh.below b; obtain ⟨l0, l1, l2, l3, l4, l5⟩ := hh.cells))
  clear c1 c2 l0 l1 l2 l3 l4 l5
  replace hm := hm.below (Below.refl w2.heap.size w2).drew
  replace hh := hh.below (Below.refl w2.heap.size w2).drew
  replace bel := bel.drew
  have hl2 : N ≤ 65536 := by omega
  go_region_held (fun w' => (IsMem w' M G (zeroMS X) ∧ IsCfg w' w.heap.size s a c d g k ∧ Below w.heap.size w w') ∧ w'.cell? ⟨w.heap.size, 0, none⟩ = some (.int .i64 s) ∧ w'.cell? ⟨w.heap.size, 1, none⟩ = some (.int .i64 a) ∧ w'.cell? ⟨w.heap.size, 2, none⟩ = some (.int .i64 c) ∧ w'.cell? ⟨w.heap.size, 3, none⟩ = some (.int .i64 d) ∧ w'.cell? ⟨w.heap.size, 4, none⟩ = some (.int .i64 g) ∧ w'.cell? ⟨w.heap.size, 5, none⟩ = some (.int .i64 k)) (exact mkS hm hh bel) (first
    | (go_at_call 24; with_reducible refine (words_n hm hlen hl2).mono ?_; rintro e w3 ⟨R, rfl, hw1, _, b⟩; replace bel := seq_below bel b; replace hh := hh.below b; replace hm := hm.below b)
    | (go_at_call 25; with_reducible refine (c3 _).mono ?_; rintro e w4 ⟨Q, rfl, hw2, _, b⟩; replace bel := seq_below bel b; replace hh := hh.below b; replace hm := hm.below b; replace hw1 := words_below hw1 b)
    | (go_at_call 23; with_reducible refine (same_n hw1 hw2 hlen hl2).mono ?_; rintro e w5 ⟨rfl, b⟩; replace bel := seq_below bel b; replace hh := hh.below b; replace hm := hm.below b)
    | (go_at_call 26; with_reducible refine (Mm.touches_any hm).mono ?_; rintro e w6 ⟨rfl, rfl⟩)
    | (go_at_call 12; with_reducible refine (c4 _).mono ?_; rintro e w7 ⟨rfl, b⟩; replace bel := seq_below bel b; replace hh := hh.below b; replace hm := hm.below b))
  all_goals
    go_wp2
    go_ret
    exact ⟨rfl, bel⟩

theorem memories_law (s a c d g k : Int) (w : World) : Calls Try.prog 6 #[.agg (cs s a c d g k)] w fun e w' => e = .returned (.bool true) ∧ Below w.heap.size w w' := by
  cases hr : rightB s a c d g k
  · exact memories_no hr w
  · obtain ⟨C, D, S, B, rfl, rfl, rfl, hB, hB8, _, hD1, _, hS1, hC8, hD16, hS64⟩ := nat_cfg hr
    exact memories_yes hr hB hB8 hC8 hD16 hS64 hS1 hD1 w
end Go.Proofs.Ytcpbfbdmfkhaeab
