/- hist.Ahead, the reference's Ahead and Less. -/
import Derived.Test.YtecppcakgfohbabHI
namespace Go.Proofs.Ytecppcakgfohbab
open Go.RowKit Go.Sort
set_option linter.unusedSimpArgs false
set_option linter.unusedVariables false

theorem RdEv.at {w : World} {ad : Option Addr} {E : List Ev} (h : RdEv w ad E) {i : Nat} {e : Ev} (he : E[i]? = some e) : ∃ b off, ad = some ⟨b, off, none⟩ ∧ b < w.heap.size ∧ ∀ w', Below w.heap.size w w' → w'.cell? ⟨b, off + i * 14, none⟩ = some (.int .i64 e.cl) ∧ w'.cell? ⟨b, off + i * 14 + 1, none⟩ = some (.int .i64 e.op) ∧ w'.cell? ⟨b, off + i * 14 + 2, none⟩ = some (.int .i64 e.bg) ∧ w'.cell? ⟨b, off + i * 14 + 3, none⟩ = some (.int .i64 e.pt) ∧ w'.cell? ⟨b, off + i * 14 + 4, none⟩ = some (.int .i64 e.en) ∧ w'.cell? ⟨b, off + i * 14 + 5, none⟩ = some (.bool e.bh) ∧ w'.cell? ⟨b, off + i * 14 + 6, none⟩ = some (.int .i64 e.kd) ∧ w'.cell? ⟨b, off + i * 14 + 7, none⟩ = some (.int .i64 e.nn) ∧ w'.cell? ⟨b, off + i * 14 + 8, none⟩ = some (.int .u64 (e.hh : Nat)) ∧ w'.cell? ⟨b, off + i * 14 + 9, none⟩ = some (.int .u64 (e.hx : Nat)) ∧ w'.cell? ⟨b, off + i * 14 + 10, none⟩ = some (.int .u64 (e.hy : Nat)) ∧ w'.cell? ⟨b, off + i * 14 + 11, none⟩ = some (.int .i64 e.er) ∧ w'.cell? ⟨b, off + i * 14 + 12, none⟩ = some (.int .u64 (e.ah : Nat)) ∧ w'.cell? ⟨b, off + i * 14 + 13, none⟩ = some (.bool e.ay) := by
  obtain ⟨b, off, ha, hb, hc⟩ := h i e he
  subst ha
  refine ⟨b, off, rfl, hb, fun w' k => ?_⟩
  have q : ∀ j, j < 14 → w'.cell? ⟨b, off + i * 14 + j, none⟩ = e.row[j]? := fun j hj => (k.cell (p := ⟨b, off + i * 14 + j, none⟩) hb).trans (hc j hj)
  exact ⟨q 0 (by decide), q 1 (by decide), q 2 (by decide), q 3 (by decide), q 4 (by decide), q 5 (by decide), q 6 (by decide), q 7 (by decide), q 8 (by decide), q 9 (by decide), q 10 (by decide), q 11 (by decide), q 12 (by decide), q 13 (by decide)⟩
def ahB (e f : Ev) : Bool := decide (e.en < f.bg)
set_option maxRecDepth 100000 in
theorem ahead_any (e f : Ev) (w : World) : Calls Try.prog 36 #[.agg e.row, .agg f.row] w fun r w' => r = .returned (.bool (ahB e f)) ∧ Below w.heap.size w w' := by
  have hA := new_obj w (.cells e.row 43)
  have b1 := alloc_below w (.cells e.row 43)
  have z1 : (w.alloc (.cells e.row 43)).heap.size = w.heap.size + 1 := by simp
  generalize hw0 : w.alloc (.cells e.row 43) = w0 at hA b1 z1
  have hB := new_obj w0 (.cells f.row 43)
  have b2 := alloc_below w0 (.cells f.row 43)
  replace hA := (b2.block _ (lt_of_block hA)).trans hA
  rw [z1] at hB
  have bel := seq_below b1 b2
  replace hw0 := hid1 hw0
  clear b1 b2 z1
  go_enter Try.func36, Try.ntmps36
  go_upto_region 1 with fail
  rw [hw0.out]
  clear hw0
  generalize World.alloc _ _ = w1 at *
  generalize hbc : w.heap.size = bq at hA hB ⊢
  replace hbc := hid1 hbc
  obtain ⟨bb, hbb⟩ : ∃ ba, bq + 1 = ba := ⟨_, rfl⟩
  rw [hbb] at hB ⊢
  replace hbb := hid1 hbb
  obtain ⟨x0, x1, x2, x3, x4, x5⟩ := ev_cells hA
  obtain ⟨y0, y1, y2, y3, y4, y5⟩ := ev_cells hB
  clear hA hB
  go_wp2
  go_ret
  exact ⟨rfl, bel⟩
set_option maxRecDepth 100000 in
theorem rahead_any (e f : Ev) (w : World) : Calls Try.prog 18 #[.agg e.row, .agg f.row] w fun r w' => r = .returned (.bool (ahB e f)) ∧ Below w.heap.size w w' := by
  have hA := new_obj w (.cells e.row 43)
  have b1 := alloc_below w (.cells e.row 43)
  have z1 : (w.alloc (.cells e.row 43)).heap.size = w.heap.size + 1 := by simp
  generalize hw0 : w.alloc (.cells e.row 43) = w0 at hA b1 z1
  have hB := new_obj w0 (.cells f.row 43)
  have b2 := alloc_below w0 (.cells f.row 43)
  replace hA := (b2.block _ (lt_of_block hA)).trans hA
  rw [z1] at hB
  have bel := seq_below b1 b2
  replace hw0 := hid1 hw0
  clear b1 b2 z1
  go_enter Try.func18, Try.ntmps18
  go_upto_region 1 with fail
  rw [hw0.out]
  clear hw0
  generalize World.alloc _ _ = w1 at *
  generalize hbc : w.heap.size = bq at hA hB ⊢
  replace hbc := hid1 hbc
  obtain ⟨bb, hbb⟩ : ∃ ba, bq + 1 = ba := ⟨_, rfl⟩
  rw [hbb] at hB ⊢
  replace hbb := hid1 hbb
  obtain ⟨x0, x1, x2, x3, x4, x5⟩ := ev_cells hA
  obtain ⟨y0, y1, y2, y3, y4, y5⟩ := ev_cells hB
  clear hA hB
  go_wp2
  go_ret
  exact ⟨rfl, bel⟩
def lsB (e f : Ev) : Bool := decide (ptI e f < 0)
end Go.Proofs.Ytecppcakgfohbab
