/- The law of New. -/
import Derived.Test.YtfllkacebhcbdaaVD
import Derived.Test.YtfllkacebhcbdaaVAr
namespace Go.Proofs.Ytfllkacebhcbdaa
open Go.RowKit

theorem ptr_none (w : World) : (binOp BinOp.neq 41 (Value.pointer none) (Value.pointer none)).run Try.prog w = .ok (.bool false) w := by kernel_rfl
set_option maxHeartbeats 4000000 in
theorem new_row (s a c d g k : Int) (w : World) :
    Calls Try.prog 8 #[.agg (cs s a c d g k)] w fun r w' => r = .returned (.bool true) ∧ Below w.heap.size w w' := by
  have cA := hid1 awake_any
  have pn := ptr_none
  have py := fun B => ptr_ne B
  have bel0 := alloc_below w (.cells #[.int .i64 s, .int .i64 a, .int .i64 c, .int .i64 d, .int .i64 g, .int .i64 k] 40)
  have hb0 := new_obj w (.cells #[.int .i64 s, .int .i64 a, .int .i64 c, .int .i64 d, .int .i64 g, .int .i64 k] 40)
  cases hR : rightB s a c d g k with
  | true =>
    have cN := new_some s a c d g k hR
    have cR := rright_any s a c d g k
    rw [hR] at cR
    unfold cs at cR cN
    replace cN := hid1 cN
    replace cR := hid1 cR
    go_enter Try.func8, Try.ntmps8
    go_upto_region 1 with fail
    generalize w.alloc (.cells #[.int .i64 s, .int .i64 a, .int .i64 c, .int .i64 d, .int .i64 g, .int .i64 k] 40) = w1 at *
    generalize hc0 : w.heap.size = c0 at *
    replace hc0 := hid1 hc0
    have lt0 := lt_of_block hb0
    have s0 : w1.cell? ⟨c0, 0, none⟩ = some (.int .i64 s) := by simp [World.cell?, hb0]
    have s1 : w1.cell? ⟨c0, 1, none⟩ = some (.int .i64 a) := by simp [World.cell?, hb0]
    have s2 : w1.cell? ⟨c0, 2, none⟩ = some (.int .i64 c) := by simp [World.cell?, hb0]
    have s3 : w1.cell? ⟨c0, 3, none⟩ = some (.int .i64 d) := by simp [World.cell?, hb0]
    have s4 : w1.cell? ⟨c0, 4, none⟩ = some (.int .i64 g) := by simp [World.cell?, hb0]
    have s5 : w1.cell? ⟨c0, 5, none⟩ = some (.int .i64 k) := by simp [World.cell?, hb0]
    have hk : Hid (∀ w', Below w1.heap.size w1 w' → w'.cell? ⟨c0, 0, none⟩ = some (.int .i64 s) ∧ w'.cell? ⟨c0, 1, none⟩ = some (.int .i64 a) ∧ w'.cell? ⟨c0, 2, none⟩ = some (.int .i64 c) ∧ w'.cell? ⟨c0, 3, none⟩ = some (.int .i64 d) ∧ w'.cell? ⟨c0, 4, none⟩ = some (.int .i64 g) ∧ w'.cell? ⟨c0, 5, none⟩ = some (.int .i64 k)) := hid1 fun w' b => by
      have e := (b.block c0 lt0).trans hb0
      simp [World.cell?, e]
    have b := Below.refl w1.heap.size w1
    go_region_held (fun wr => wr.cell? ⟨c0, 0, none⟩ = some (.int .i64 s) ∧ wr.cell? ⟨c0, 1, none⟩ = some (.int .i64 a) ∧ wr.cell? ⟨c0, 2, none⟩ = some (.int .i64 c) ∧ wr.cell? ⟨c0, 3, none⟩ = some (.int .i64 d) ∧ wr.cell? ⟨c0, 4, none⟩ = some (.int .i64 g) ∧ wr.cell? ⟨c0, 5, none⟩ = some (.int .i64 k)) (first | with_reducible exact hk.out _ b | go_keep) (first
      | (go_at_call 15; with_reducible refine (cN.out _).mono ?_; rintro r w2 ⟨B, rfl, b2⟩; replace b : Below w1.heap.size w1 w2 := (by first | exact seq_below b b2 | exact seq_below (Below.drew b) b2); clear b2)
      | (go_at_call 16; with_reducible refine (cR.out _).mono ?_; rintro r w3 ⟨rfl, b3⟩; replace b : Below w1.heap.size w1 w3 := (by first | exact seq_below b b3 | exact seq_below (Below.drew b) b3); clear b3)
      | (go_at_call 17; with_reducible refine (cA.out _).mono ?_; rintro r w4 ⟨rfl, b4⟩; replace b : Below w1.heap.size w1 w4 := (by first | exact seq_below b b4 | exact seq_below (Below.drew b) b4); clear b4))
    all_goals
      go_wp2
      go_ret
      exact ⟨rfl, by rw [hc0.out]; exact bel0.trans (b.mono (Nat.le_of_lt lt0))⟩
  | false =>
    have cN := new_no s a c d g k hR
    have cR := rright_any s a c d g k
    rw [hR] at cR
    unfold cs at cR cN
    replace cN := hid1 cN
    replace cR := hid1 cR
    go_enter Try.func8, Try.ntmps8
    go_upto_region 1 with fail
    generalize w.alloc (.cells #[.int .i64 s, .int .i64 a, .int .i64 c, .int .i64 d, .int .i64 g, .int .i64 k] 40) = w1 at *
    generalize hc0 : w.heap.size = c0 at *
    replace hc0 := hid1 hc0
    have lt0 := lt_of_block hb0
    have s0 : w1.cell? ⟨c0, 0, none⟩ = some (.int .i64 s) := by simp [World.cell?, hb0]
    have s1 : w1.cell? ⟨c0, 1, none⟩ = some (.int .i64 a) := by simp [World.cell?, hb0]
    have s2 : w1.cell? ⟨c0, 2, none⟩ = some (.int .i64 c) := by simp [World.cell?, hb0]
    have s3 : w1.cell? ⟨c0, 3, none⟩ = some (.int .i64 d) := by simp [World.cell?, hb0]
    have s4 : w1.cell? ⟨c0, 4, none⟩ = some (.int .i64 g) := by simp [World.cell?, hb0]
    have s5 : w1.cell? ⟨c0, 5, none⟩ = some (.int .i64 k) := by simp [World.cell?, hb0]
    have hk : Hid (∀ w', Below w1.heap.size w1 w' → w'.cell? ⟨c0, 0, none⟩ = some (.int .i64 s) ∧ w'.cell? ⟨c0, 1, none⟩ = some (.int .i64 a) ∧ w'.cell? ⟨c0, 2, none⟩ = some (.int .i64 c) ∧ w'.cell? ⟨c0, 3, none⟩ = some (.int .i64 d) ∧ w'.cell? ⟨c0, 4, none⟩ = some (.int .i64 g) ∧ w'.cell? ⟨c0, 5, none⟩ = some (.int .i64 k)) := hid1 fun w' b => by
      have e := (b.block c0 lt0).trans hb0
      simp [World.cell?, e]
    have b := Below.refl w1.heap.size w1
    go_region_held (fun wr => wr.cell? ⟨c0, 0, none⟩ = some (.int .i64 s) ∧ wr.cell? ⟨c0, 1, none⟩ = some (.int .i64 a) ∧ wr.cell? ⟨c0, 2, none⟩ = some (.int .i64 c) ∧ wr.cell? ⟨c0, 3, none⟩ = some (.int .i64 d) ∧ wr.cell? ⟨c0, 4, none⟩ = some (.int .i64 g) ∧ wr.cell? ⟨c0, 5, none⟩ = some (.int .i64 k)) (first | with_reducible exact hk.out _ b | go_keep) (first
      | (go_at_call 15; with_reducible refine (cN.out _).mono ?_; rintro r w2 ⟨rfl, b2⟩; replace b : Below w1.heap.size w1 w2 := (by first | exact seq_below b b2 | exact seq_below (Below.drew b) b2); clear b2)
      | (go_at_call 16; with_reducible refine (cR.out _).mono ?_; rintro r w3 ⟨rfl, b3⟩; replace b : Below w1.heap.size w1 w3 := (by first | exact seq_below b b3 | exact seq_below (Below.drew b) b3); clear b3)
      | (go_at_call 17; with_reducible refine (cA.out _).mono ?_; rintro r w4 ⟨rfl, b4⟩; replace b : Below w1.heap.size w1 w4 := (by first | exact seq_below b b4 | exact seq_below (Below.drew b) b4); clear b4))
    all_goals
      go_wp2
      go_ret
      exact ⟨rfl, by rw [hc0.out]; exact bel0.trans (b.mono (Nat.le_of_lt lt0))⟩
end Go.Proofs.Ytfllkacebhcbdaa
