/- hist.Ahead, the reference's Ahead and Less. -/
import Derived.Test.YthihdaloonagoaaHI
namespace Go.Proofs.Ythihdaloonagoaa
open Go.RowKit Go.Sort
set_option linter.unusedSimpArgs false
set_option linter.unusedVariables false

theorem RdEv.at {w : World} {ad : Option Addr} {E : List Ev} (h : RdEv w ad E) {i : Nat} {e : Ev} (he : E[i]? = some e) : ∃ b off, ad = some ⟨b, off, none⟩ ∧ b < w.heap.size ∧ ∀ w', Below w.heap.size w w' → w'.cell? ⟨b, off + i * 14, none⟩ = some (.int .i64 e.cl) ∧ w'.cell? ⟨b, off + i * 14 + 1, none⟩ = some (.int .i64 e.op) ∧ w'.cell? ⟨b, off + i * 14 + 2, none⟩ = some (.int .i64 e.bg) ∧ w'.cell? ⟨b, off + i * 14 + 3, none⟩ = some (.int .i64 e.pt) ∧ w'.cell? ⟨b, off + i * 14 + 4, none⟩ = some (.int .i64 e.en) ∧ w'.cell? ⟨b, off + i * 14 + 5, none⟩ = some (.bool e.bh) ∧ w'.cell? ⟨b, off + i * 14 + 6, none⟩ = some (.int .i64 e.kd) ∧ w'.cell? ⟨b, off + i * 14 + 7, none⟩ = some (.int .i64 e.nn) ∧ w'.cell? ⟨b, off + i * 14 + 8, none⟩ = some (.int .u64 (e.hh : Nat)) ∧ w'.cell? ⟨b, off + i * 14 + 9, none⟩ = some (.int .u64 (e.hx : Nat)) ∧ w'.cell? ⟨b, off + i * 14 + 10, none⟩ = some (.int .u64 (e.hy : Nat)) ∧ w'.cell? ⟨b, off + i * 14 + 11, none⟩ = some (.int .i64 e.er) ∧ w'.cell? ⟨b, off + i * 14 + 12, none⟩ = some (.int .u64 (e.ah : Nat)) ∧ w'.cell? ⟨b, off + i * 14 + 13, none⟩ = some (.bool e.ay) := by
  obtain ⟨b, off, ha, hb, hc⟩ := h i e he
  subst ha
  refine ⟨b, off, rfl, hb, fun w' k => ?_⟩
  have q : ∀ j, j < 14 → w'.cell? ⟨b, off + i * 14 + j, none⟩ = e.row[j]? := fun j hj => (k.cell (p := ⟨b, off + i * 14 + j, none⟩) hb).trans (hc j hj)
  exact ⟨q 0 (by decide), q 1 (by decide), q 2 (by decide), q 3 (by decide), q 4 (by decide), q 5 (by decide), q 6 (by decide), q 7 (by decide), q 8 (by decide), q 9 (by decide), q 10 (by decide), q 11 (by decide), q 12 (by decide), q 13 (by decide)⟩
def ahB (e f : Ev) : Bool := decide (e.en < f.bg)
set_option maxRecDepth 100000 in
theorem ahead_any (e f : Ev) (w : World) : Calls Try.prog 13 #[.agg e.row, .agg f.row] w fun r w' => r = .returned (.bool (ahB e f)) ∧ Below w.heap.size w w' := by
  have hA := new_obj w (.cells e.row 36)
  have b1 := alloc_below w (.cells e.row 36)
  have z1 : (w.alloc (.cells e.row 36)).heap.size = w.heap.size + 1 := by simp
  generalize hw0 : w.alloc (.cells e.row 36) = w0 at hA b1 z1
  have hB := new_obj w0 (.cells f.row 36)
  have b2 := alloc_below w0 (.cells f.row 36)
  replace hA := (b2.block _ (lt_of_block hA)).trans hA
  rw [z1] at hB
  have bel := seq_below b1 b2
  replace hw0 := hid1 hw0
  clear b1 b2 z1
  go_enter Try.func13, Try.ntmps13
  go_upto_region 1 with fail
  rw [hw0.out]
  clear hw0
  generalize World.alloc _ _ = w1 at *
  generalize hbc : w.heap.size = bq at hA hB ⊢
  replace hbc := hid1 hbc
  obtain ⟨bb, hbb⟩ : ∃ ba, bq + 1 = ba := ⟨_, rfl⟩
  rw [hbb] at hB ⊢
  replace hbb := hid1 hbb
  obtain ⟨x0, x1, x2, x3, x4, x5⟩ := ev_cells hA
  obtain ⟨y0, y1, y2, y3, y4, y5⟩ := ev_cells hB
  clear hA hB
  go_wp2
  go_ret
  exact ⟨rfl, bel⟩
set_option maxRecDepth 100000 in
theorem rahead_any (e f : Ev) (w : World) : Calls Try.prog 14 #[.agg e.row, .agg f.row] w fun r w' => r = .returned (.bool (ahB e f)) ∧ Below w.heap.size w w' := by
  have hA := new_obj w (.cells e.row 36)
  have b1 := alloc_below w (.cells e.row 36)
  have z1 : (w.alloc (.cells e.row 36)).heap.size = w.heap.size + 1 := by simp
  generalize hw0 : w.alloc (.cells e.row 36) = w0 at hA b1 z1
  have hB := new_obj w0 (.cells f.row 36)
  have b2 := alloc_below w0 (.cells f.row 36)
  replace hA := (b2.block _ (lt_of_block hA)).trans hA
  rw [z1] at hB
  have bel := seq_below b1 b2
  replace hw0 := hid1 hw0
  clear b1 b2 z1
  go_enter Try.func14, Try.ntmps14
  go_upto_region 1 with fail
  rw [hw0.out]
  clear hw0
  generalize World.alloc _ _ = w1 at *
  generalize hbc : w.heap.size = bq at hA hB ⊢
  replace hbc := hid1 hbc
  obtain ⟨bb, hbb⟩ : ∃ ba, bq + 1 = ba := ⟨_, rfl⟩
  rw [hbb] at hB ⊢
  replace hbb := hid1 hbb
  obtain ⟨x0, x1, x2, x3, x4, x5⟩ := ev_cells hA
  obtain ⟨y0, y1, y2, y3, y4, y5⟩ := ev_cells hB
  clear hA hB
  go_wp2
  go_ret
  exact ⟨rfl, bel⟩
def lsB (e f : Ev) : Bool := decide (ptI e f < 0)
set_option maxRecDepth 100000 in
theorem less_any (e f : Ev) (w : World) : Calls Try.prog 21 #[.agg e.row, .agg f.row] w fun r w' => r = .returned (.bool (lsB e f)) ∧ Below w.heap.size w w' := by
  obtain ⟨rb, hz⟩ : ∃ r, lsB e f = r := ⟨_, rfl⟩
  rw [hz]
  have hz0 := (show (rb = true ↔ (e.pt < f.pt ∨ (e.pt = f.pt ∧ (bhI e < bhI f ∨ (bhI e = bhI f ∧ (e.cl < f.cl ∨ (e.cl = f.cl ∧ e.op < f.op))))))) by rw [← hz, lsB, decide_eq_true_eq, ptI_lt])
  clear hz
  have hA := new_obj w (.cells e.row 36)
  have b1 := alloc_below w (.cells e.row 36)
  have z1 : (w.alloc (.cells e.row 36)).heap.size = w.heap.size + 1 := by simp
  generalize hw0 : w.alloc (.cells e.row 36) = w0 at hA b1 z1
  have hB := new_obj w0 (.cells f.row 36)
  have b2 := alloc_below w0 (.cells f.row 36)
  replace hA := (b2.block _ (lt_of_block hA)).trans hA
  rw [z1] at hB
  have bel := seq_below b1 b2
  replace hw0 := hid1 hw0
  clear b1 b2 z1
  go_enter Try.func21, Try.ntmps21
  go_upto_region 1 with fail
  rw [hw0.out]
  clear hw0
  generalize World.alloc _ _ = w1 at *
  generalize hbc : w.heap.size = bq at hA hB ⊢
  replace hbc := hid1 hbc
  obtain ⟨bb, hbb⟩ : ∃ ba, bq + 1 = ba := ⟨_, rfl⟩
  rw [hbb] at hB ⊢
  replace hbb := hid1 hbb
  obtain ⟨x0, x1, x2, x3, x4, x5⟩ := ev_cells hA
  obtain ⟨y0, y1, y2, y3, y4, y5⟩ := ev_cells hB
  clear hA hB
  unfold bhI at hz0
  generalize e.pt = ep at *
  generalize f.pt = fp at *
  generalize e.cl = ec at *
  generalize f.cl = fc at *
  generalize e.op = eo at *
  generalize f.op = fo at *
  generalize e.bh = eb at *
  generalize f.bh = fb at *
  replace hz0 := hid1 hz0
  by_cases h1 : ep = fp
  · subst h1
    have g1 : (ep != ep) = false := by simp
    by_cases h2 : eb = fb
    · subst h2
      have g2 : (eb != eb) = false := by simp
      by_cases h3 : ec = fc
      · subst h3
        have g3 : (ec != ec) = false := by simp
        have hr : decide (eo < fo) = rb := by
          have := hz0.out
          by_cases q : eo < fo
          · rw [decide_eq_true q]; exact (this.2 (.inr ⟨rfl, .inr ⟨rfl, .inr ⟨rfl, q⟩⟩⟩)).symm
          · rw [decide_eq_false q]
            cases rb with
            | false => rfl
            | true => exact absurd (this.1 rfl) (by omega)
        replace hr := hid1 hr
        go_wp2
        go_ret
        exact ⟨by rw [← hr.out]; rfl, bel⟩
      · have g3 : (ec != fc) = true := by simpa using h3
        have hr : decide (ec < fc) = rb := by
          have := hz0.out
          by_cases q : ec < fc
          · rw [decide_eq_true q]; exact (this.2 (.inr ⟨rfl, .inr ⟨rfl, .inl q⟩⟩)).symm
          · rw [decide_eq_false q]
            cases rb with
            | false => rfl
            | true => exact absurd (this.1 rfl) (by omega)
        replace hr := hid1 hr
        replace h3 := hid1 h3
        go_wp2
        go_ret
        exact ⟨by rw [← hr.out]; rfl, bel⟩
    · cases eb with
      | true =>
        cases fb with
        | true => exact absurd rfl h2
        | false =>
          have hr : false = rb := by
            cases rb with
            | false => rfl
            | true => have := hz0.out.1 rfl; simp at this
          clear h2
          replace hr := hid1 hr
          go_wp2
          go_ret
          exact ⟨by rw [← hr.out]; rfl, bel⟩
      | false =>
        cases fb with
        | false => exact absurd rfl h2
        | true =>
          have hr : true = rb := by
            have := hz0.out.2 (.inr ⟨rfl, .inl (by decide)⟩)
            exact this.symm
          clear h2
          replace hr := hid1 hr
          go_wp2
          go_ret
          exact ⟨by rw [← hr.out]; rfl, bel⟩
  · have g1 : (ep != fp) = true := by simpa using h1
    have hr : decide (ep < fp) = rb := by
      have := hz0.out
      by_cases q : ep < fp
      · rw [decide_eq_true q]; exact (this.2 (.inl q)).symm
      · rw [decide_eq_false q]
        cases rb with
        | false => rfl
        | true => exact absurd (this.1 rfl) (by omega)
    replace hr := hid1 hr
    replace h1 := hid1 h1
    go_wp2
    go_ret
    exact ⟨by rw [← hr.out]; rfl, bel⟩
end Go.Proofs.Ythihdaloonagoaa
