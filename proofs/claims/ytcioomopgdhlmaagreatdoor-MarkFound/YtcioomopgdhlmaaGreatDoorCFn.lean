/- mark's Found where there is nothing to tell: a config that isn't right, or words too few or too many. -/
import Derived.Test.YtcioomopgdhlmaaGreatDoorCFc
import Derived.BigQuiet
import Derived.Test.YtcioomopgdhlmaaGreatDoorPSizes
namespace Go.Proofs.YtcioomopgdhlmaaGreatDoor
open Go.RowKit
open Mm (IsMem MS touched Only IsWords)
open Hh (WT okW wordOf IsHd)

theorem in_reg {f : Nat} {args : Array Value} {v : Value} (c : ∀ w, Calls Tryz.prog f args w fun e w' => e = .returned v ∧ Below w.heap.size w w') (w0 : World) : ∀ w', Below w0.heap.size w0 w' → Calls Tryz.prog f args w' fun e w'' => e = .returned v ∧ Below w0.heap.size w0 w'' :=
  fun w' hw' => (c w').mono fun _ _ ⟨he, hb⟩ => ⟨he, seq_below hw' hb⟩
set_option maxRecDepth 100000 in
set_option maxHeartbeats 4000000 in
theorem found_no {s a c d g k : Int} (hr : rightB s a c d g k = false) {ad : Option Addr} {n cap e : Nat} (w : World) :
    Calls Tryz.prog 6 #[.agg (cs s a c d g k), .slice ad n cap, .int .u64 (e : Nat)] w fun r w' => r = .returned (.slice none 0 0) ∧ Below w.heap.size w w' := by
  have c8 := right_any s a c d g k
  rw [hr] at c8
  have h1 := cfg_new w s a c d g k
  have b1 := alloc_below w (.cells #[.int .i64 s, .int .i64 a, .int .i64 c, .int .i64 d, .int .i64 g, .int .i64 k] 23)
  have b2 := alloc_below (w.alloc (.cells #[.int .i64 s, .int .i64 a, .int .i64 c, .int .i64 d, .int .i64 g, .int .i64 k] 23)) (.cells #[.slice ad n cap] 25)
  have b3 := alloc_below ((w.alloc (.cells #[.int .i64 s, .int .i64 a, .int .i64 c, .int .i64 d, .int .i64 g, .int .i64 k] 23)).alloc (.cells #[.slice ad n cap] 25)) (.cells #[.int .u64 (e : Nat)] 26)
  have h3 := (h1.below b2).below b3
  have bel := seq_below (seq_below b1 b2) b3
  clear h1 b1 b2 b3 hr
  unfold cs at *
  go_enter Tryz.func6, Tryz.ntmps6
  go_wp2
  go_step3
  go_upto_region 1 with fail
  generalize World.alloc _ _ = w0 at *
  have ec8 := in_reg c8 w0
  have e2 : ∀ w', Below w0.heap.size w0 w' → _ := fun w' hw' => (h3.below hw').cells
  refine region_below (by kernel_rfl) (by kernel_rfl) ?_
  repeat (first | go_big_quiet_skip | (go_big_quiet_want; go_big_quiet_op; first | go_big_quiet_on | (refine ⟨_, fun _ _ => rfl, ?_⟩; go_big_quiet_on) | (with_reducible refine ⟨_, ec8, ?_⟩; go_big_quiet_on) | (refine ⟨_, fun w' hw' => by (obtain ⟨l0, l1, l2, l3, l4, l5⟩ := e2 w' hw'; simp [go_sem, l0, l1, l2, l3, l4, l5]; rfl), ?_⟩; go_big_quiet_on)))
  refine wpQuiet_nil ?_
  intro w8 hb8
  replace bel := seq_below bel hb8
  clear e2 ec8 h3
  go_wp2
  rw [Exit.noGoto_ret]
  go_ret
  exact ⟨rfl, bel⟩
set_option maxRecDepth 100000 in
set_option maxHeartbeats 4000000 in
theorem found_len {K : Cf} (hK : K.Ok) {ad : Option Addr} {n cap e : Nat} (hn : n ≠ K.N) (w : World) :
    Calls Tryz.prog 6 #[.agg K.cs, .slice ad n cap, .int .u64 (e : Nat)] w fun r w' => r = .returned (.slice none 0 0) ∧ Below w.heap.size w w' := by
  have c8 := right_any K.S K.a K.C K.D K.g K.k
  rw [hK.r] at c8
  have c49 := fun w => size_yes hK.r w
  have hsz : szI K.S K.a K.C K.D = (K.N : Int) := szI_nat K.C K.D K.S K.B K.a hK.b
  simp only [hsz] at c49
  clear hsz
  have hne : ((n : Int) != (K.N : Int)) = true := by simp; omega
  have hne2 : ¬ (n : Int) = (K.N : Int) := by omega
  have h1 := cfg_new w K.S K.a K.C K.D K.g K.k
  have b1 := alloc_below w (.cells #[.int .i64 (K.S : Nat), .int .i64 K.a, .int .i64 (K.C : Nat), .int .i64 (K.D : Nat), .int .i64 K.g, .int .i64 K.k] 23)
  have e1 : (w.alloc (.cells #[.int .i64 (K.S : Nat), .int .i64 K.a, .int .i64 (K.C : Nat), .int .i64 (K.D : Nat), .int .i64 K.g, .int .i64 K.k] 23)).heap.size = w.heap.size + 1 := by simp
  generalize hw1 : w.alloc (.cells #[.int .i64 (K.S : Nat), .int .i64 K.a, .int .i64 (K.C : Nat), .int .i64 (K.D : Nat), .int .i64 K.g, .int .i64 K.k] 23) = w1 at *
  have h2 := new_obj w1 (.cells #[.slice ad n cap] 25)
  rw [e1] at h2
  have b2 := alloc_below w1 (.cells #[.slice ad n cap] 25)
  have e2 : (w1.alloc (.cells #[.slice ad n cap] 25)).heap.size = w1.heap.size + 1 := by simp
  have b3 := alloc_below (w1.alloc (.cells #[.slice ad n cap] 25)) (.cells #[.int .u64 (e : Nat)] 26)
  have h3 := (h1.below b2).below b3
  have h4 := (b3.block _ (by rw [e2, e1]; omega)).trans h2
  have bel := seq_below (seq_below b1 b2) b3
  clear h1 b1 b2 b3 h2 e1 e2
  subst hw1
  unfold Cf.cs at *
  unfold cs at *
  clear hK hn
  go_enter Tryz.func6, Tryz.ntmps6
  go_wp2
  go_step3
  go_upto_region 1 with fail
  generalize World.alloc _ _ = w0 at *
  have ec8 := in_reg c8 w0
  have ec49 := in_reg c49 w0
  have e2 : ∀ w', Below w0.heap.size w0 w' → _ := fun w' hw' => (h3.below hw').cells
  have e4 : ∀ w', Below w0.heap.size w0 w' → w'.cell? ⟨w.heap.size + 1, 0, none⟩ = some (.slice ad n cap) := fun w' hw' => by simp [World.cell?, (hw'.block _ (lt_of_block h4)).trans h4]
  refine region_below (by kernel_rfl) (by kernel_rfl) ?_
  repeat (first | go_big_quiet_skip | (go_big_quiet_want; go_big_quiet_op; first | go_big_quiet_on | (refine ⟨_, fun _ _ => rfl, ?_⟩; go_big_quiet_on) | (with_reducible refine ⟨_, ec8, ?_⟩; go_big_quiet_on) | (with_reducible refine ⟨_, ec49, ?_⟩; go_big_quiet_on) | (refine ⟨.agg #[.int .i64 (K.S : Nat), .int .i64 K.a, .int .i64 (K.C : Nat), .int .i64 (K.D : Nat), .int .i64 K.g, .int .i64 K.k], ?_, ?_⟩; (focus (intro w' hw'; obtain ⟨l0, l1, l2, l3, l4, l5⟩ := e2 w' hw'; simp [l0, l1, l2, l3, l4, l5, Result.andThen]; done)); go_big_quiet_on) | (refine ⟨.slice ad n cap, ?_, ?_⟩; (focus (intro w' hw'; have l0 := e4 w' hw'; simp [l0, Result.andThen]; done)); go_big_quiet_on)))
  refine wpQuiet_nil ?_
  intro w8 hb8
  replace bel := seq_below bel hb8
  clear e2 e4 ec8 ec49 h3 h4
  go_wp2
  rw [Exit.noGoto_ret]
  go_ret
  exact ⟨rfl, bel⟩
end Go.Proofs.YtcioomopgdhlmaaGreatDoor
