/- full, gives. -/
import Derived.Test.YtecppcakgfohbabNF
namespace Go.Proofs.Ytecppcakgfohbab
open Go.RowKit
set_option linter.unusedSimpArgs false
set_option linter.unusedVariables false

theorem ans_cells {w : World} {B : Nat} {aE : Int} {aH : Nat} {aY : Bool} (hq : w.heap[B]? = some (.cells #[.int .i64 aE, .int .u64 (aH : Nat), .bool aY] 39 (0, 0))) : w.cell? ⟨B, 0, none⟩ = some (.int .i64 aE) ∧ w.cell? ⟨B, 1, none⟩ = some (.int .u64 (aH : Nat)) ∧ w.cell? ⟨B, 2, none⟩ = some (.bool aY) := by simp [World.cell?, hq]
set_option maxRecDepth 100000 in
set_option maxHeartbeats 1000000 in
theorem full_any {w : World} {B : Nat} {L : Nat → Prop} {C : Cg} {n : Nat} {X : Sx} {m : Md} (h : MdOk w B L C n X m) {o k b : Nat} {c : Value} (ck : Ck w m.Bc o n k X b c) : Calls Try.prog 67 #[.pointer (some ⟨B, 0, none⟩), .pointer (some ⟨m.Bc, o, none⟩)] w fun r w' => r = .returned (.bool (decide (C.d ≤ (heldF k X.H : Nat)))) ∧ Below w.heap.size w w' := by
  have HM := fun (w' : World) (b : Below w.heap.size w w') => (h.below b).cells
  have HK := fun (w' : World) (b : Below w.heap.size w w') => ck.below b
  clear h ck
  go_enter Try.func67, Try.ntmps67
  go_upto_region 1 with fail
  refine region_below (by kernel_rfl) (by kernel_rfl) ?_
  repeat (first | go_big_quiet_skip | (go_big_quiet_want; go_big_quiet_op; first | go_big_quiet_on | (refine ⟨_, fun _ _ => rfl, ?_⟩; go_big_quiet_on) | (refine ⟨.map (some b), ?_, ?_⟩; (focus (intro w' hw'; obtain ⟨x0, x1, x2, x3, x4, x5, x6, x7, x8⟩ := HM w' hw'; have q := HK w' hw'; have y0 := q.y0; simp [y0, Result.andThen]; done)); go_big_quiet_on) | (refine ⟨.int .i64 (heldF k X.H : Nat), ?_, ?_⟩; (focus (intro w' hw'; obtain ⟨x0, x1, x2, x3, x4, x5, x6, x7, x8⟩ := HM w' hw'; have q := HK w' hw'; have y0 := q.y0; simp [q.hd.len, Result.andThen]; done)); go_big_quiet_on) | (refine ⟨.int .i64 C.d, ?_, ?_⟩; (focus (intro w' hw'; obtain ⟨x0, x1, x2, x3, x4, x5, x6, x7, x8⟩ := HM w' hw'; have q := HK w' hw'; have y0 := q.y0; simp [x3, Result.andThen]; done)); go_big_quiet_on) | (refine ⟨.bool (decide (C.d ≤ (heldF k X.H : Nat))), ?_, ?_⟩; (focus (intro w' hw'; simp [go_sem, Result.andThen]; done)); go_big_quiet_on)))
  refine wpQuiet_nil ?_
  intro w8 hb8
  go_wp2
  go_ret
  exact ⟨rfl, hb8⟩
/-- May an answer give its handle? -/
def gvB (X : Sx) (aE : Int) (aH : Nat) (aY : Bool) : Bool := !decide (aH ∈ X.G) && !decide (aH = 0) && sameA aE aH aY 0 aH false
def gvX (X : Sx) (aE : Int) (aH : Nat) (aY : Bool) : Sx := if gvB X aE aH aY = true then { X with G := X.G ++ [aH] } else X
theorem gvX_yes {X : Sx} {aE : Int} {aH : Nat} {aY : Bool} (h : gvB X aE aH aY = true) : gvX X aE aH aY = { X with G := X.G ++ [aH] } := by unfold gvX; rw [if_pos h]
theorem gvX_no {X : Sx} {aE : Int} {aH : Nat} {aY : Bool} (h : gvB X aE aH aY = false) : gvX X aE aH aY = X := by unfold gvX; rw [if_neg (by rw [h]; decide)]
set_option maxRecDepth 100000 in
set_option maxHeartbeats 2000000 in
theorem gives_any {w : World} {B : Nat} {L : Nat → Prop} {C : Cg} {n : Nat} {X : Sx} {m : Md} (h : MdOk w B L C n X m) (hn : n < 9223372036854775807) (aE : Int) {aH : Nat} (hH : aH < 18446744073709551616) (aY : Bool) :
    Calls Try.prog 72 #[.pointer (some ⟨B, 0, none⟩), .agg #[.int .i64 aE, .int .u64 (aH : Nat), .bool aY]] w fun r w' => r = .returned (.bool (gvB X aE aH aY)) ∧ MdOk w' B L C (n + 1) (gvX X aE aH aY) m ∧ Chg L w w' := by
  obtain ⟨rb, hrb⟩ : ∃ rb, gvB X aE aH aY = rb := ⟨_, rfl⟩
  obtain ⟨X', hX⟩ : ∃ X', gvX X aE aH aY = X' := ⟨_, rfl⟩
  rw [hrb, hX]
  replace hrb := hid1 hrb
  replace hX := hid1 hX
  have hq := new_obj w (.cells #[.int .i64 aE, .int .u64 (aH : Nat), .bool aY] 39)
  have bel := alloc_below w (.cells #[.int .i64 aE, .int .u64 (aH : Nat), .bool aY] 39)
  replace h := h.below bel
  go_enter Try.func72, Try.ntmps72
  go_upto_region 1 with fail
  generalize World.alloc _ _ = w1 at *
  generalize hbc : w.heap.size = ba at hq ⊢
  replace hbc := hid1 hbc
  have HS := fun (w' : World) (hm : MdOk w' B L C n X m) (ha : w'.heap[ba]? = some (.cells #[.int .i64 aE, .int .u64 (aH : Nat), .bool aY] 39 (0, 0))) => And.intro hm.cells.2.2.2.2.2.2.2.2 (And.intro (ans_cells ha).2.1 (hm.gv.look hH))
  have b1 := alloc_below w1 (.cells #[] 88)
  have h2 := h.below b1
  have hq2 := (b1.block _ (lt_of_block hq)).trans hq
  have s1 := HS w1.drew (h.below (Below.refl _ _).drew) hq
  have s2 := HS (w1.alloc (.cells #[] 88)).drew (h2.below (Below.refl _ _).drew) hq2
  go_region_held (fun wr => wr.cell? ⟨B, 8, none⟩ = some (.map (some m.bG)) ∧ wr.cell? ⟨ba, 1, none⟩ = some (.int .u64 (aH : Nat)) ∧ (Instr.lookup 78 (.map (some m.bG)) (.int .u64 (aH : Nat)) true).run Try.prog wr = .ok (.tuple #[.agg #[], .bool (decide (aH ∈ X.G))]) wr) (first | with_reducible exact s1 | with_reducible exact s2) (fail)
  all_goals
    replace hq2 : (w1.alloc (.cells #[] 88)).drew.heap[ba]? = _ := hq2
    replace h2 := h2.below (Below.refl _ _).drew
    have bel3 := (seq_below bel b1).drew
    clear s1 s2 HS h hq b1 bel
    generalize (w1.alloc (.cells #[] 88)).drew = w3 at *
    obtain ⟨y0, y1, y2⟩ := ans_cells hq2
    have h3 := hid1 h2
    clear h2
    by_cases hg : aH ∈ X.G
    · have hfz : Hid (gvB X aE aH aY = false) := hid1 (by unfold gvB; rw [decide_eq_true hg]; rfl)
      rw [decide_eq_true hg]
      go_wp2
      go_ret
      exact ⟨by rw [← hrb.out, hfz.out]; rfl, by rw [← hX.out, gvX_no hfz.out]; exact h3.out.more (Nat.le_succ n), Chg.of_below bel3⟩
    rw [decide_eq_false hg]
    by_cases h0 : aH = 0
    · have hfz : Hid (gvB X aE aH aY = false) := hid1 (by unfold gvB; rw [decide_eq_true h0]; simp)
      have f0 : ((aH : Int) == 0) = true := by simp [h0]
      replace h0 := hid1 h0
      go_wp2
      go_ret
      exact ⟨by rw [← hrb.out, hfz.out]; rfl, by rw [← hX.out, gvX_no hfz.out]; exact h3.out.more (Nat.le_succ n), Chg.of_below bel3⟩
    have f0 : ((aH : Int) == 0) = false := by simp; omega
    by_cases hE : aE = 0
    · cases aY with
      | true =>
        have hfz : Hid (gvB X aE aH true = false) := hid1 (by unfold gvB sameA; simp)
        have f1 : (aE == 0) = true := by simp [hE]
        replace hE := hid1 hE
        replace h0 := hid1 h0
        go_wp2
        go_ret
        exact ⟨by rw [← hrb.out, hfz.out]; rfl, by rw [← hX.out, gvX_no hfz.out]; exact h3.out.more (Nat.le_succ n), Chg.of_below bel3⟩
      | false =>
        have hfz : Hid (gvB X aE aH false = true) := hid1 (by unfold gvB sameA; rw [decide_eq_false hg, decide_eq_false h0]; simp [hE])
        have f1 : (aE == 0) = true := by simp [hE]
        replace hE := hid1 hE
        replace h0 := hid1 h0
        go_upto_region 4 with fail
        obtain ⟨w4, hr, hG, gr⟩ := (h3.out.below (Below.refl _ _).drew).gv.add hn hH
        have h4 := (h3.out.below (Below.refl _ _).drew).given hG gr
        have c4 := Chg.grown (L := L) (Chg.of_below bel3).drew gr (fun x hx => .inl (by obtain rfl := Option.some.inj hx; exact h3.out.LB.2.2.2))
        have hq4 := (gr.block ba (lt_of_block hq2) (fun e => ne_map hq2 h3.out.gv.map (Option.some.inj e))).trans hq2
        have s3 := And.intro (h3.out.below (Below.refl _ _).drew).cells.2.2.2.2.2.2.2.2 (ans_cells (w := w3.drew) hq2).2.1
        have s4 := And.intro h4.cells.2.2.2.2.2.2.2.2 (ans_cells hq4).2.1
        clear gr hG y0 y1 y2
        go_region_held (fun wr => wr.cell? ⟨B, 8, none⟩ = some (.map (some m.bG)) ∧ wr.cell? ⟨ba, 1, none⟩ = some (.int .u64 (aH : Nat))) (first | with_reducible exact s3 | with_reducible exact s4) (fail)
        all_goals
          go_wp2
          go_ret
          exact ⟨by rw [← hrb.out, hfz.out]; rfl, by rw [← hX.out, gvX_yes hfz.out]; exact h4, c4⟩
    · have hfz : Hid (gvB X aE aH aY = false) := hid1 (by unfold gvB sameA; simp [hE])
      have f1 : (aE == 0) = false := by simp [hE]
      replace hE := hid1 hE
      replace h0 := hid1 h0
      go_wp2
      go_ret
      exact ⟨by rw [← hrb.out, hfz.out]; rfl, by rw [← hX.out, gvX_no hfz.out]; exact h3.out.more (Nat.le_succ n), Chg.of_below bel3⟩
end Go.Proofs.Ytecppcakgfohbab
