/- A Lay that is not made: its record has no body. -/
import Derived.Test.YtnegdabcjnhpdaaDoorGE
import Derived.Test.YtnegdabcjnhpdaaDoorGC
import Derived.Test.YtnegdabcjnhpdaaDoorGB
import Derived.Test.YtnegdabcjnhpdaaDoorGD
import Derived.Test.YtnegdabcjnhpdaaDoorGN
import Derived.Test.YtnegdabcjnhpdaaDoorGP
namespace Go.Proofs.YtnegdabcjnhpdaaDoor
open Go.RowKit
open Mm (IsMem MS touched Only)
open Hh (WT fen fen_any)


set_option maxRecDepth 100000 in
set_option maxHeartbeats 2000000 in
theorem newLay_bad {s a c d g k ri iz : Int} {F : Int} {B : Nat} {fr ex z : Int} {ep : Nat} (cN : ∀ w, Calls Tryd.prog 36 #[.agg #[.int .i64 s, .int .i64 a, .int .i64 c, .int .i64 d, .int .i64 g, .int .i64 k], .int .i64 ri, .int .i64 iz, .pointer (some ⟨B, 0, none⟩)] w fun e w' => e = .returned (.tuple #[nwV s a c d g k F B, .bool true]) ∧ Below w.heap.size w w') (hz : z < 0) (cB : ∀ w, Calls Tryd.prog 42 #[.agg #[.int .i64 s, .int .i64 a, .int .i64 c, .int .i64 d, .int .i64 g, .int .i64 k], .int .i64 fr, .int .i64 2] w fun e w' => e = .returned (.int .i64 z) ∧ Below w.heap.size w w') (w : World) :
    Calls Tryd.prog 16 #[.agg #[.int .i64 s, .int .i64 a, .int .i64 c, .int .i64 d, .int .i64 g, .int .i64 k], .int .i64 ri, .int .i64 iz, .int .i64 fr, .int .i64 ex, .int .u64 (ep : Nat), .pointer (some ⟨B, 0, none⟩)] w fun e w' => e = .returned (.pointer none) ∧ Below w.heap.size w w' := by
  obtain ⟨D, hu⟩ := und56
  have HU : Hid (Tryd.prog.underlying 56 = some (.struct D)) := hu
  have o1 : ((#[(.int .i64 s), (.int .i64 a), (.int .i64 c), (.int .i64 d), (.int .i64 g), (.int .i64 k), (.pointer (some ⟨B, 0, none⟩)), (.int .i64 F), (.int .u64 0), (.int .i64 0), (.int .i64 (-1)), (.pointer none), (.int .i64 0), (.int .i64 0), (.int .i64 0), (.int .u64 0), (.int .i64 0), (.bool false)] : Array Value).all (·.oneCell')) = true := by kernel_rfl
  have O1 : Hid (((#[(.int .i64 s), (.int .i64 a), (.int .i64 c), (.int .i64 d), (.int .i64 g), (.int .i64 k), (.pointer (some ⟨B, 0, none⟩)), (.int .i64 F), (.int .u64 0), (.int .i64 0), (.int .i64 (-1)), (.pointer none), (.int .i64 0), (.int .i64 0), (.int .i64 0), (.int .u64 0), (.int .i64 0), (.bool false)] : Array Value).all (·.oneCell')) = true) := o1
  clear o1
  clear hu
  have b1 := alloc_below w (.cells #[.int .i64 s, .int .i64 a, .int .i64 c, .int .i64 d, .int .i64 g, .int .i64 k] 42)
  have hh := cfg_new w s a c d g k
  unfold nwV at cN
  go_enter Tryd.func16, Tryd.ntmps16
  go_upto_region 1 with fail
  generalize (w.alloc (.cells #[.int .i64 s, .int .i64 a, .int .i64 c, .int .i64 d, .int .i64 g, .int .i64 k] 42)) = w2 at *
  obtain ⟨l0, l1, l2, l3, l4, l5⟩ := hh.cells
  go_wp2_with (first
    | (go_at_call 36; refine (cN _).mono ?_; rintro e w3 ⟨rfl, b⟩; replace hh := hh.below b; replace b1 := seq_below b1 b; have h56 : Blk _ _ _ 56 := new_obj w3 (.cells #[(.int .i64 s), (.int .i64 a), (.int .i64 c), (.int .i64 d), (.int .i64 g), (.int .i64 k), (.pointer (some ⟨B, 0, none⟩)), (.int .i64 F), (.int .u64 0), (.int .i64 0), (.int .i64 (-1)), (.pointer none), (.int .i64 0), (.int .i64 0), (.int .i64 0), (.int .u64 0), (.int .i64 0), (.bool false)] 56); clear l0 l1 l2 l3 l4 l5; obtain ⟨l0, l1, l2, l3, l4, l5⟩ := (hh.below (alloc_below w3 (.cells #[(.int .i64 s), (.int .i64 a), (.int .i64 c), (.int .i64 d), (.int .i64 g), (.int .i64 k), (.pointer (some ⟨B, 0, none⟩)), (.int .i64 F), (.int .u64 0), (.int .i64 0), (.int .i64 (-1)), (.pointer none), (.int .i64 0), (.int .i64 0), (.int .i64 0), (.int .u64 0), (.int .i64 0), (.bool false)] 56))).cells)
        | (go_at_call 42; refine (cB _).mono ?_; rintro e w5 ⟨rfl, b5⟩; replace h56 := h56.below b5; have b6 := seq_below (b1.alloc b1.size (.cells #[(.int .i64 s), (.int .i64 a), (.int .i64 c), (.int .i64 d), (.int .i64 g), (.int .i64 k), (.pointer (some ⟨B, 0, none⟩)), (.int .i64 F), (.int .u64 0), (.int .i64 0), (.int .i64 (-1)), (.pointer none), (.int .i64 0), (.int .i64 0), (.int .i64 0), (.int .u64 0), (.int .i64 0), (.bool false)] 56)) b5)
    | (refine wpList_load_row rfl 56 _ rfl w3.heap.size rfl 56 #[(.int .i64 s), (.int .i64 a), (.int .i64 c), (.int .i64 d), (.int .i64 g), (.int .i64 k), (.pointer (some ⟨B, 0, none⟩)), (.int .i64 F), (.int .u64 0), (.int .i64 0), (.int .i64 (-1)), (.pointer none), (.int .i64 0), (.int .i64 0), (.int .i64 0), (.int .u64 0), (.int .i64 0), (.bool false)] (0, 0) (.struct D) h56 HU.out rfl (by kernel_rfl) ?_))
  go_ret
  exact ⟨rfl, b6⟩
end Go.Proofs.YtnegdabcjnhpdaaDoor
/- Contracts of package field's Turn and Stamp as they are made, with a book. -/
namespace Go.Proofs.YtnegdabcjnhpdaaDoor
open Go.RowKit
open Mm (IsMem MS touched Only)
open Hh (WT)

theorem stampV_bad {s a c d g k ri z : Int} (pb : Option Addr) (hz : z < 0) (cS : ∀ w, Calls Tryd.prog 57 #[.agg #[.int .i64 s, .int .i64 a, .int .i64 c, .int .i64 d, .int .i64 g, .int .i64 k], .int .i64 ri, .pointer pb] w fun e w' => e = .returned (.agg #[.pointer pb, .int .i64 ri, .int .i64 z, .int .i64 0, .int .u64 0, .int .i64 0]) ∧ Below w.heap.size w w') (w : World) :
    Calls Tryd.prog 26 #[.agg #[.int .i64 s, .int .i64 a, .int .i64 c, .int .i64 d, .int .i64 g, .int .i64 k], .int .i64 ri, .pointer pb] w fun e w' => e = .returned (.pointer none) ∧ Below w.heap.size w w' := by
  have b1 := alloc_below w (.cells #[.int .i64 s, .int .i64 a, .int .i64 c, .int .i64 d, .int .i64 g, .int .i64 k] 42)
  have hh := cfg_new w s a c d g k
  obtain ⟨l0, l1, l2, l3, l4, l5⟩ := hh.cells
  go_enter Tryd.func26, Tryd.ntmps26
  go_wp2_with (go_at_call 57; refine (cS _).mono ?_; rintro e w1 ⟨rfl, b⟩; replace b1 := seq_below b1 b)
  go_ret
  first | exact ⟨rfl, b1⟩ | exact ⟨rfl, b1.alloc b1.size _⟩
theorem stampV_nil {s a c d g k ri z : Int} (pb : Option Addr) (hp : pb = none) (cS : ∀ w, Calls Tryd.prog 57 #[.agg #[.int .i64 s, .int .i64 a, .int .i64 c, .int .i64 d, .int .i64 g, .int .i64 k], .int .i64 ri, .pointer pb] w fun e w' => e = .returned (.agg #[.pointer pb, .int .i64 ri, .int .i64 z, .int .i64 0, .int .u64 0, .int .i64 0]) ∧ Below w.heap.size w w') (w : World) :
    Calls Tryd.prog 26 #[.agg #[.int .i64 s, .int .i64 a, .int .i64 c, .int .i64 d, .int .i64 g, .int .i64 k], .int .i64 ri, .pointer pb] w fun e w' => e = .returned (.pointer none) ∧ Below w.heap.size w w' := by
  subst hp
  have b1 := alloc_below w (.cells #[.int .i64 s, .int .i64 a, .int .i64 c, .int .i64 d, .int .i64 g, .int .i64 k] 42)
  have hh := cfg_new w s a c d g k
  obtain ⟨l0, l1, l2, l3, l4, l5⟩ := hh.cells
  by_cases hz : z < 0
  · go_enter Tryd.func26, Tryd.ntmps26
    go_wp2_with (go_at_call 57; refine (cS _).mono ?_; rintro e w1 ⟨rfl, b⟩; replace b1 := seq_below b1 b)
    go_ret
    first | exact ⟨rfl, b1⟩ | exact ⟨rfl, b1.alloc b1.size _⟩
  · go_enter Tryd.func26, Tryd.ntmps26
    go_wp2_with (go_at_call 57; refine (cS _).mono ?_; rintro e w1 ⟨rfl, b⟩; replace b1 := seq_below b1 b)
    go_ret
    first | exact ⟨rfl, b1⟩ | exact ⟨rfl, b1.alloc b1.size _⟩
end Go.Proofs.YtnegdabcjnhpdaaDoor
/- The law of no machine: of a config that isn't right, of no slot, no word of a body, or no book there is none. -/
namespace Go.Proofs.YtnegdabcjnhpdaaDoor
open Go.RowKit
open Mm (IsMem MS touched Only)
open Hh (WT)

/-- The place of a word of a body; below 0: there is none. -/
theorem body_z (s a c d g k i j : Int) : ∃ F : Int, (∀ w, Calls Tryd.prog 42 #[.agg #[.int .i64 s, .int .i64 a, .int .i64 c, .int .i64 d, .int .i64 g, .int .i64 k], .int .i64 i, .int .i64 j] w fun e w' => e = .returned (.int .i64 F) ∧ Below w.heap.size w w') ∧ ((rightB s a c d g k && be i s && be j (bsI a)) = true → 0 ≤ F) ∧ ((rightB s a c d g k && be i s && be j (bsI a)) = false → F < 0) := by
  cases h : (rightB s a c d g k && be i s) with
  | false => exact ⟨-1, fun w => body_no i j h w, fun h' => by simp at h', fun _ => by omega⟩
  | true =>
    cases h2 : be j (bsI a) with
    | false => exact ⟨-1, fun w => body_no2 i j h h2 w, fun h' => by simp at h', fun _ => by omega⟩
    | true =>
      simp only [Bool.and_eq_true] at h
      refine ⟨_, fun w => body_yes i j h.1 h.2 h2 w, fun _ => ?_, fun h' => by simp at h'⟩
      obtain ⟨hr, hi⟩ := h
      rw [rightB_iff] at hr
      rw [be_iff] at hi h2
      unfold fsI ssI
      have hb := bsI_b a hr.2.1
      have h3 : 0 ≤ c * d := Int.mul_nonneg (by omega) (by omega)
      have h4 : 0 ≤ i * (2 + bsI a) := Int.mul_nonneg (by omega) (by omega)
      omega
theorem drop_blk {e : Ending} {w' : World} {w : World} {c : Array Value} {t : TypeId} : (∃ P, e = .returned (.pointer (some ⟨P, 0, none⟩)) ∧ Blk w' P c t ∧ w.heap.size ≤ P ∧ Below w.heap.size w w') → ∃ P, e = .returned (.pointer (some ⟨P, 0, none⟩)) ∧ Below w.heap.size w w' := fun ⟨P, h1, _, _, h4⟩ => ⟨P, h1, h4⟩
section
variable {s a c d g k node i rc : Int}
theorem stampS (pb : Option Addr) {z : Int} (cB : ∀ w, Calls Tryd.prog 42 #[.agg #[.int .i64 s, .int .i64 a, .int .i64 c, .int .i64 d, .int .i64 g, .int .i64 k], .int .i64 rc, .int .i64 1] w fun e w' => e = .returned (.int .i64 z) ∧ Below w.heap.size w w') : ∀ w, Calls Tryd.prog 57 #[.agg #[.int .i64 s, .int .i64 a, .int .i64 c, .int .i64 d, .int .i64 g, .int .i64 k], .int .i64 rc, .pointer pb] w fun e w' => e = .returned (.agg #[.pointer pb, .int .i64 rc, .int .i64 z, .int .i64 0, .int .u64 0, .int .i64 0]) ∧ Below w.heap.size w w' := fun w => stampOf_as pb cB w
theorem none_law (node i rc : Int) (hrc : (Lit.int .i64 rc).wf = true) (book : Bool) (s a c d g k : Int) {w : World} (hw : WT w) : Calls Tryd.prog 6 #[.agg #[.int .i64 s, .int .i64 a, .int .i64 c, .int .i64 d, .int .i64 g, .int .i64 k], .int .i64 node, .int .i64 i, .int .i64 rc, .bool book] w fun e w' => e = .returned (.bool true) ∧ Below w.heap.size w w' := by
  have cR := fun w => rright_any s a c d g k w
  have cP := fun w => right_any s a c d g k w
  have cM := fun w => room_any s a c d g k w
  obtain ⟨F, f1, f2, f3⟩ := body_z s a c d g k node i
  obtain ⟨z1, y1, y2, y3⟩ := body_z s a c d g k rc 1
  obtain ⟨z2, x1, x2, x3⟩ := body_z s a c d g k rc 2
  cases book with
  | false =>
    have e11 := fun w => newRead_nil (fun w => newestOf_nil f1 w) w
    have e20 := fun w => newSee_nil (v := 3) (fun w => newestOf_nil f1 w) w
    have e16 := fun w => newLay_nil (fr := rc) (ex := -2) (ep := 0) (fun w => newestOf_nil f1 w) w
    have e26 := fun w => stampV_nil none rfl (stampS none y1) w
    cases hR : rightB s a c d g k with
    | false => rw [hR] at cR cP; exact none_00 hw hrc cR cM e11 e20 e16 e26 (fun w => newTurn_no cP w)
    | true => rw [hR] at cR cP; exact none_10 hw hrc cR cM e11 e20 e16 e26 (fun w => newTurn_nil cP w)
  | true =>
    cases hR : rightB s a c d g k with
    | false =>
      rw [hR] at cR cP
      have hF : F < 0 := f3 (by rw [hR]; rfl)
      have hz : z1 < 0 := y3 (by rw [hR]; rfl)
      exact none_01 hw hrc cR cM (fun B w => newRead_no (fun w => newestOf_no (B := B) hF f1 w) w) (fun B w => newSee_no (v := 3) (fun w => newestOf_no (B := B) hF f1 w) w) (fun B w => newLay_no (fr := rc) (ex := -2) (ep := 0) (fun w => newestOf_no (B := B) hF f1 w) w) (fun B w => stampV_bad (some ⟨B, 0, none⟩) hz (stampS _ y1) w) (fun B w => newTurn_no cP w)
    | true =>
      rw [hR] at cR cP
      have hb := bsI_b a (rightB_iff.1 hR).2.1
      have c18 : ∀ (B : Nat) (w : World), Calls Tryd.prog 18 #[.agg #[.int .i64 s, .int .i64 a, .int .i64 c, .int .i64 d, .int .i64 g, .int .i64 k], .pointer (some ⟨B, 0, none⟩)] w fun e w' => ∃ P, e = .returned (.pointer (some ⟨P, 0, none⟩)) ∧ Below w.heap.size w w' := fun B w => (newTurn_yes cP w).mono fun _ _ h => drop_blk h
      have cY : (be node s && be i (bsI a)) = true → 0 ≤ F := fun h => f2 (by rw [hR]; simpa using h)
      have cN : (be node s && be i (bsI a)) = false → F < 0 := fun h => f3 (by rw [hR]; simpa using h)
      have b1 : be 1 (bsI a) = true := be_iff.2 (by omega)
      have b2 : be 2 (bsI a) = true := be_iff.2 (by omega)
      have sY : be rc s = true → 0 ≤ z1 ∧ 0 ≤ z2 := fun h => ⟨y2 (by rw [hR, h, b1]; rfl), x2 (by rw [hR, h, b2]; rfl)⟩
      have sN : be rc s = false → z1 < 0 ∧ z2 < 0 := fun h => ⟨y3 (by rw [hR, h]; rfl), x3 (by rw [hR, h]; rfl)⟩
      have yR : 0 ≤ F → ∀ (B : Nat) (w : World), Calls Tryd.prog 11 #[.agg #[.int .i64 s, .int .i64 a, .int .i64 c, .int .i64 d, .int .i64 g, .int .i64 k], .int .i64 node, .int .i64 i, .pointer (some ⟨B, 0, none⟩)] w fun e w' => ∃ P, e = .returned (.pointer (some ⟨P, 0, none⟩)) ∧ Below w.heap.size w w' := fun h B w => (newRead_yes (fun w => newestOf_yes (B := B) h f1 w) w).mono fun _ _ h => drop_blk h
      have yS : 0 ≤ F → ∀ (B : Nat) (w : World), Calls Tryd.prog 20 #[.agg #[.int .i64 s, .int .i64 a, .int .i64 c, .int .i64 d, .int .i64 g, .int .i64 k], .int .i64 node, .int .i64 i, .int .u64 3, .pointer (some ⟨B, 0, none⟩)] w fun e w' => ∃ P, e = .returned (.pointer (some ⟨P, 0, none⟩)) ∧ Below w.heap.size w w' := fun h B w => (newSee_yes (v := 3) (fun w => newestOf_yes (B := B) h f1 w) w).mono fun _ _ h => drop_blk h
      have yL : 0 ≤ F → 0 ≤ z2 → ∀ (B : Nat) (w : World), Calls Tryd.prog 16 #[.agg #[.int .i64 s, .int .i64 a, .int .i64 c, .int .i64 d, .int .i64 g, .int .i64 k], .int .i64 node, .int .i64 i, .int .i64 rc, .int .i64 (-2), .int .u64 0, .pointer (some ⟨B, 0, none⟩)] w fun e w' => ∃ P, e = .returned (.pointer (some ⟨P, 0, none⟩)) ∧ Below w.heap.size w w' := fun h h2 B w => (newLay_yes (ex := -2) (ep := 0) (fun w => newestOf_yes (B := B) h f1 w) h2 x1 w).mono fun _ _ h => drop_blk h
      have nL : 0 ≤ F → z2 < 0 → ∀ (B : Nat) (w : World), Calls Tryd.prog 16 #[.agg #[.int .i64 s, .int .i64 a, .int .i64 c, .int .i64 d, .int .i64 g, .int .i64 k], .int .i64 node, .int .i64 i, .int .i64 rc, .int .i64 (-2), .int .u64 0, .pointer (some ⟨B, 0, none⟩)] w fun e w' => e = .returned (.pointer none) ∧ Below w.heap.size w w' := fun h h2 B w => newLay_bad (ex := -2) (ep := 0) (fun w => newestOf_yes (B := B) h f1 w) h2 x1 w
      have yT : 0 ≤ z1 → ∀ (B : Nat) (w : World), Calls Tryd.prog 26 #[.agg #[.int .i64 s, .int .i64 a, .int .i64 c, .int .i64 d, .int .i64 g, .int .i64 k], .int .i64 rc, .pointer (some ⟨B, 0, none⟩)] w fun e w' => ∃ P, e = .returned (.pointer (some ⟨P, 0, none⟩)) ∧ Below w.heap.size w w' := fun h B w => (stampV (some ⟨B, 0, none⟩) h (stampS _ y1) B rfl w).mono fun _ _ h => drop_blk h
      have nT : z1 < 0 → ∀ (B : Nat) (w : World), Calls Tryd.prog 26 #[.agg #[.int .i64 s, .int .i64 a, .int .i64 c, .int .i64 d, .int .i64 g, .int .i64 k], .int .i64 rc, .pointer (some ⟨B, 0, none⟩)] w fun e w' => e = .returned (.pointer none) ∧ Below w.heap.size w w' := fun h B w => stampV_bad (some ⟨B, 0, none⟩) h (stampS _ y1) w
      have nR : F < 0 → ∀ (B : Nat) (w : World), Calls Tryd.prog 11 #[.agg #[.int .i64 s, .int .i64 a, .int .i64 c, .int .i64 d, .int .i64 g, .int .i64 k], .int .i64 node, .int .i64 i, .pointer (some ⟨B, 0, none⟩)] w fun e w' => e = .returned (.pointer none) ∧ Below w.heap.size w w' := fun h B w => newRead_no (fun w => newestOf_no (B := B) h f1 w) w
      have nS : F < 0 → ∀ (B : Nat) (w : World), Calls Tryd.prog 20 #[.agg #[.int .i64 s, .int .i64 a, .int .i64 c, .int .i64 d, .int .i64 g, .int .i64 k], .int .i64 node, .int .i64 i, .int .u64 3, .pointer (some ⟨B, 0, none⟩)] w fun e w' => e = .returned (.pointer none) ∧ Below w.heap.size w w' := fun h B w => newSee_no (v := 3) (fun w => newestOf_no (B := B) h f1 w) w
      have nK : F < 0 → ∀ (B : Nat) (w : World), Calls Tryd.prog 16 #[.agg #[.int .i64 s, .int .i64 a, .int .i64 c, .int .i64 d, .int .i64 g, .int .i64 k], .int .i64 node, .int .i64 i, .int .i64 rc, .int .i64 (-2), .int .u64 0, .pointer (some ⟨B, 0, none⟩)] w fun e w' => e = .returned (.pointer none) ∧ Below w.heap.size w w' := fun h B w => newLay_no (fr := rc) (ex := -2) (ep := 0) (fun w => newestOf_no (B := B) h f1 w) w
      clear f1 f2 f3 y1 y2 y3 x1 x2 x3
      have beF : ∀ {i n : Int}, ¬ (0 ≤ i ∧ i < n) → be i n = false := fun h => by cases hb' : be _ _ with | false => rfl | true => exact absurd (be_iff.1 hb') h
      by_cases w0 : 0 ≤ node
      · by_cases w1 : node < s
        · by_cases w2 : 0 ≤ i
          · by_cases w3 : i < bsI a
            · by_cases s0 : 0 ≤ rc
              · by_cases s1 : rc < s
                · have hF := cY (by rw [be_iff.2 ⟨w0, w1⟩, be_iff.2 ⟨w2, w3⟩]; rfl)
                  obtain ⟨hz1, hz2⟩ := sY (be_iff.2 ⟨s0, s1⟩)
                  exact none_y_y hw hrc w0 w1 w2 w3 s0 s1 cR cM (yR hF) (yS hF) (yL hF hz2) (yT hz1) c18
                · have hF := cY (by rw [be_iff.2 ⟨w0, w1⟩, be_iff.2 ⟨w2, w3⟩]; rfl)
                  obtain ⟨hz1, hz2⟩ := sN (beF (by omega))
                  exact none_y_n1 hw hrc w0 w1 w2 w3 s0 s1 cR cM (yR hF) (yS hF) (nL hF hz2) (nT hz1) c18
              · have hF := cY (by rw [be_iff.2 ⟨w0, w1⟩, be_iff.2 ⟨w2, w3⟩]; rfl)
                obtain ⟨hz1, hz2⟩ := sN (beF (by omega))
                exact none_y_n0 hw hrc w0 w1 w2 w3 s0 cR cM (yR hF) (yS hF) (nL hF hz2) (nT hz1) c18
            · by_cases s0 : 0 ≤ rc
              · by_cases s1 : rc < s
                · have hF := cN (by rw [beF (i := i) (by omega), Bool.and_false])
                  obtain ⟨hz1, hz2⟩ := sY (be_iff.2 ⟨s0, s1⟩)
                  exact none_n3_y hw hrc w0 w1 w2 w3 s0 s1 cR cM (nR hF) (nS hF) (nK hF) (yT hz1) c18
                · have hF := cN (by rw [beF (i := i) (by omega), Bool.and_false])
                  obtain ⟨hz1, hz2⟩ := sN (beF (by omega))
                  exact none_n3_n1 hw hrc w0 w1 w2 w3 s0 s1 cR cM (nR hF) (nS hF) (nK hF) (nT hz1) c18
              · have hF := cN (by rw [beF (i := i) (by omega), Bool.and_false])
                obtain ⟨hz1, hz2⟩ := sN (beF (by omega))
                exact none_n3_n0 hw hrc w0 w1 w2 w3 s0 cR cM (nR hF) (nS hF) (nK hF) (nT hz1) c18
          · by_cases s0 : 0 ≤ rc
            · by_cases s1 : rc < s
              · have hF := cN (by rw [beF (i := i) (by omega), Bool.and_false])
                obtain ⟨hz1, hz2⟩ := sY (be_iff.2 ⟨s0, s1⟩)
                exact none_n2_y hw hrc w0 w1 w2 s0 s1 cR cM (nR hF) (nS hF) (nK hF) (yT hz1) c18
              · have hF := cN (by rw [beF (i := i) (by omega), Bool.and_false])
                obtain ⟨hz1, hz2⟩ := sN (beF (by omega))
                exact none_n2_n1 hw hrc w0 w1 w2 s0 s1 cR cM (nR hF) (nS hF) (nK hF) (nT hz1) c18
            · have hF := cN (by rw [beF (i := i) (by omega), Bool.and_false])
              obtain ⟨hz1, hz2⟩ := sN (beF (by omega))
              exact none_n2_n0 hw hrc w0 w1 w2 s0 cR cM (nR hF) (nS hF) (nK hF) (nT hz1) c18
        · by_cases s0 : 0 ≤ rc
          · by_cases s1 : rc < s
            · have hF := cN (by rw [beF (by omega)]; rfl)
              obtain ⟨hz1, hz2⟩ := sY (be_iff.2 ⟨s0, s1⟩)
              exact none_n1_y hw hrc w0 w1 s0 s1 cR cM (nR hF) (nS hF) (nK hF) (yT hz1) c18
            · have hF := cN (by rw [beF (by omega)]; rfl)
              obtain ⟨hz1, hz2⟩ := sN (beF (by omega))
              exact none_n1_n1 hw hrc w0 w1 s0 s1 cR cM (nR hF) (nS hF) (nK hF) (nT hz1) c18
          · have hF := cN (by rw [beF (by omega)]; rfl)
            obtain ⟨hz1, hz2⟩ := sN (beF (by omega))
            exact none_n1_n0 hw hrc w0 w1 s0 cR cM (nR hF) (nS hF) (nK hF) (nT hz1) c18
      · by_cases s0 : 0 ≤ rc
        · by_cases s1 : rc < s
          · have hF := cN (by rw [beF (by omega)]; rfl)
            obtain ⟨hz1, hz2⟩ := sY (be_iff.2 ⟨s0, s1⟩)
            exact none_n0_y hw hrc w0 s0 s1 cR cM (nR hF) (nS hF) (nK hF) (yT hz1) c18
          · have hF := cN (by rw [beF (by omega)]; rfl)
            obtain ⟨hz1, hz2⟩ := sN (beF (by omega))
            exact none_n0_n1 hw hrc w0 s0 s1 cR cM (nR hF) (nS hF) (nK hF) (nT hz1) c18
        · have hF := cN (by rw [beF (by omega)]; rfl)
          obtain ⟨hz1, hz2⟩ := sN (beF (by omega))
          exact none_n0_n0 hw hrc w0 s0 cR cM (nR hF) (nS hF) (nK hF) (nT hz1) c18
end
theorem none_row (node i rc : Int) (hrc : (Lit.int .i64 rc).wf = true) (book : Bool) (s a c d g k : Int) (w : World) (hw : WT w) : Calls Tryd.prog 6 #[.agg #[.int .i64 s, .int .i64 a, .int .i64 c, .int .i64 d, .int .i64 g, .int .i64 k], .int .i64 node, .int .i64 i, .int .i64 rc, .bool book] w fun e w' => e = .returned (.bool true) ∧ Below w.heap.size w w' := none_law node i rc hrc book s a c d g k hw
end Go.Proofs.YtnegdabcjnhpdaaDoor
