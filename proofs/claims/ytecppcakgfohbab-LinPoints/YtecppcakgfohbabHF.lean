/- hist.behind, byOp, byPoint. -/
import Derived.Test.YtecppcakgfohbabHE
namespace Go.Proofs.Ytecppcakgfohbab
open Go.RowKit
set_option linter.unusedSimpArgs false
set_option linter.unusedVariables false

theorem ev_cells {w : World} {B : Nat} {e : Ev} (h : w.heap[B]? = some (.cells e.row 43 (0, 0))) : w.cell? ⟨B, 0, none⟩ = some (.int .i64 e.cl) ∧ w.cell? ⟨B, 1, none⟩ = some (.int .i64 e.op) ∧ w.cell? ⟨B, 2, none⟩ = some (.int .i64 e.bg) ∧ w.cell? ⟨B, 3, none⟩ = some (.int .i64 e.pt) ∧ w.cell? ⟨B, 4, none⟩ = some (.int .i64 e.en) ∧ w.cell? ⟨B, 5, none⟩ = some (.bool e.bh) := by simp [World.cell?, h, Ev.row]
theorem ev_cells2 {w : World} {B : Nat} {e : Ev} (h : w.heap[B]? = some (.cells e.row 43 (0, 0))) : w.cell? ⟨B, 0, none⟩ = some (.int .i64 e.cl) ∧ w.cell? ⟨B, 1, none⟩ = some (.int .i64 e.op) ∧ w.cell? ⟨B, 2, none⟩ = some (.int .i64 e.bg) ∧ w.cell? ⟨B, 3, none⟩ = some (.int .i64 e.pt) ∧ w.cell? ⟨B, 4, none⟩ = some (.int .i64 e.en) ∧ w.cell? ⟨B, 5, none⟩ = some (.bool e.bh) ∧ w.cell? ⟨B, 6, none⟩ = some (.int .i64 e.kd) ∧ w.cell? ⟨B, 7, none⟩ = some (.int .i64 e.nn) ∧ w.cell? ⟨B, 8, none⟩ = some (.int .u64 (e.hh : Nat)) ∧ w.cell? ⟨B, 9, none⟩ = some (.int .u64 (e.hx : Nat)) ∧ w.cell? ⟨B, 10, none⟩ = some (.int .u64 (e.hy : Nat)) ∧ w.cell? ⟨B, 11, none⟩ = some (.int .i64 e.er) ∧ w.cell? ⟨B, 12, none⟩ = some (.int .u64 (e.ah : Nat)) ∧ w.cell? ⟨B, 13, none⟩ = some (.bool e.ay) := by simp [World.cell?, h, Ev.row]
def bhI (e : Ev) : Int := if e.bh then 1 else 0
set_option maxRecDepth 100000 in
theorem behind_any (e : Ev) (w : World) : Calls Try.prog 50 #[.agg e.row] w fun r w' => r = .returned (.int .i64 (bhI e)) ∧ Below w.heap.size w w' := by
  obtain ⟨r, hr⟩ : ∃ r, bhI e = r := ⟨_, rfl⟩
  rw [hr]
  have hq := new_obj w (.cells e.row 43)
  have bel := alloc_below w (.cells e.row 43)
  go_enter Try.func50, Try.ntmps50
  go_upto_region 1 with fail
  generalize World.alloc _ _ = w1 at *
  obtain ⟨x0, x1, x2, x3, x4, x5⟩ := ev_cells hq
  clear hq x0 x1 x2 x3 x4
  cases hb : e.bh with
  | true =>
    rw [hb] at x5
    obtain rfl : r = 1 := by rw [← hr]; unfold bhI; rw [hb]; rfl
    clear hr
    go_wp2
    go_ret
    exact ⟨rfl, bel⟩
  | false =>
    rw [hb] at x5
    obtain rfl : r = 0 := by rw [← hr]; unfold bhI; rw [hb]; rfl
    clear hr
    go_wp2
    go_ret
    exact ⟨rfl, bel⟩
theorem or_two {w : World} {g : Nat} {r1 r2 r : Int} (hr : orZ [r1, r2] = r) (h : w.heap[g]? = some (.cells #[.int .i64 r1, .int .i64 r2] 3 (0, 0))) :
    Calls Try.prog 48 #[.slice (some ⟨g, 0, none⟩) 2 2] w fun e w' => e = .returned (.int .i64 r) ∧ w' = w := by
  rw [← hr]
  exact or_any (w := w) (g := g) (off := 0) (cap := 2) (Z := [r1, r2]) (by simp) (fun i x hx => by
    match i, hx with
    | 0, hx => obtain rfl : r1 = x := by simpa using hx
               simp [World.cell?, h]
    | 1, hx => obtain rfl : r2 = x := by simpa using hx
               simp [World.cell?, h]
    | i + 2, hx => simp at hx)
theorem or_three {w : World} {g : Nat} {r1 r2 r3 r : Int} (hr : orZ [r1, r2, r3] = r) (h : w.heap[g]? = some (.cells #[.int .i64 r1, .int .i64 r2, .int .i64 r3] 3 (0, 0))) :
    Calls Try.prog 48 #[.slice (some ⟨g, 0, none⟩) 3 3] w fun e w' => e = .returned (.int .i64 r) ∧ w' = w := by
  rw [← hr]
  exact or_any (w := w) (g := g) (off := 0) (cap := 3) (Z := [r1, r2, r3]) (by simp) (fun i x hx => by
    match i, hx with
    | 0, hx => obtain rfl : r1 = x := by simpa using hx
               simp [World.cell?, h]
    | 1, hx => obtain rfl : r2 = x := by simpa using hx
               simp [World.cell?, h]
    | 2, hx => obtain rfl : r3 = x := by simpa using hx
               simp [World.cell?, h]
    | i + 3, hx => simp at hx)
def opI (e f : Ev) : Int := orZ [cmpI e.cl f.cl, cmpI e.op f.op]
set_option maxRecDepth 100000 in
set_option maxHeartbeats 2000000 in
theorem byOp_any (e f : Ev) (w : World) : Calls Try.prog 35 #[.agg e.row, .agg f.row] w fun r w' => r = .returned (.int .i64 (opI e f)) ∧ Below w.heap.size w w' := by
  have hA := new_obj w (.cells e.row 43)
  have b1 := alloc_below w (.cells e.row 43)
  have z1 : (w.alloc (.cells e.row 43)).heap.size = w.heap.size + 1 := by simp
  generalize hw0 : w.alloc (.cells e.row 43) = w0 at hA b1 z1
  have hB := new_obj w0 (.cells f.row 43)
  have b2 := alloc_below w0 (.cells f.row 43)
  replace hA := (b2.block _ (lt_of_block hA)).trans hA
  rw [z1] at hB
  have bel := seq_below b1 b2
  replace hw0 := hid1 hw0
  clear b1 b2 z1
  have c1 := hid1 (fun w' => compare_any e.cl f.cl w')
  have c2 := hid1 (fun w' => compare_any e.op f.op w')
  obtain ⟨r1, hr1⟩ : ∃ r, cmpI e.cl f.cl = r := ⟨_, rfl⟩
  obtain ⟨r2, hr2⟩ : ∃ r, cmpI e.op f.op = r := ⟨_, rfl⟩
  obtain ⟨r, hr⟩ : ∃ r, opI e f = r := ⟨_, rfl⟩
  have hor := hid1 (show orZ [r1, r2] = r by rw [← hr, ← hr1, ← hr2]; rfl)
  rw [hr1] at c1
  rw [hr2] at c2
  rw [hr]
  clear hr hr1 hr2
  have c3 := hid1 (fun (w' : World) (g : Nat) (h : w'.heap[g]? = some (.cells #[.int .i64 r1, .int .i64 r2] 3 (0, 0))) => or_two hor.out h)
  go_enter Try.func35, Try.ntmps35
  go_upto_region 1 with fail
  rw [hw0.out]
  clear hw0
  generalize World.alloc _ _ = w1 at *
  generalize hbc : w.heap.size = bq at hA hB ⊢
  replace hbc := hid1 hbc
  obtain ⟨bb, hbb⟩ : ∃ ba, bq + 1 = ba := ⟨_, rfl⟩
  rw [hbb] at hB ⊢
  replace hbb := hid1 hbb
  have S0 : ∀ w', Below w1.heap.size w1 w' → (w'.cell? ⟨bq, 0, none⟩ = some (.int .i64 e.cl) ∧ w'.cell? ⟨bq, 1, none⟩ = some (.int .i64 e.op)) ∧ w'.cell? ⟨bb, 0, none⟩ = some (.int .i64 f.cl) ∧ w'.cell? ⟨bb, 1, none⟩ = some (.int .i64 f.op) := fun w' b => by
    obtain ⟨x0, x1, x2, x3, x4, x5⟩ := ev_cells ((b.block _ (lt_of_block hA)).trans hA)
    obtain ⟨y0, y1, y2, y3, y4, y5⟩ := ev_cells ((b.block _ (lt_of_block hB)).trans hB)
    exact ⟨⟨x0, x1⟩, y0, y1⟩
  have BW := Below.refl w1.heap.size w1
  clear hA hB
  have bA := alloc_below w1 (.cells #[.int .i64 r1, .int .i64 r2] 3)
  have hO : (w1.alloc (.cells #[.int .i64 r1, .int .i64 r2] 3)).drew.heap[w1.heap.size]? = some (.cells #[.int .i64 r1, .int .i64 r2] 3 (0, 0)) := new_obj w1 _
  have k3 := hid1 (c3.out _ _ hO)
  have s1 := S0 _ BW.drew
  have s2 := S0 _ (seq_below BW bA).drew
  clear hO
  go_region_held (fun wr => (wr.cell? ⟨bq, 0, none⟩ = some (.int .i64 e.cl) ∧ wr.cell? ⟨bq, 1, none⟩ = some (.int .i64 e.op)) ∧ wr.cell? ⟨bb, 0, none⟩ = some (.int .i64 f.cl) ∧ wr.cell? ⟨bb, 1, none⟩ = some (.int .i64 f.op)) (first | with_reducible exact s1 | with_reducible exact s2) (first | (go_at_call 49; with_reducible refine (c1.out _).mono ?_; rintro e w' ⟨rfl, rfl⟩) | (go_at_call 49; with_reducible refine (c2.out _).mono ?_; rintro e w' ⟨rfl, rfl⟩) | (go_at_call 48; with_reducible refine k3.out.mono ?_; rintro e w' ⟨rfl, rfl⟩))
  all_goals
    go_wp2
    go_ret
    exact ⟨rfl, (seq_below bel bA).drew⟩
def ptI (e f : Ev) : Int := orZ [cmpI e.pt f.pt, cmpI (bhI e) (bhI f), opI e f]
theorem below_or {a w w' : World} (h : Below a.heap.size a w) (b : Below w.drew.heap.size w.drew w') : Below a.heap.size a w' := seq_below h.drew b
set_option maxRecDepth 100000 in
set_option maxHeartbeats 4000000 in
theorem byPoint_any (e f : Ev) (w : World) : Calls Try.prog 37 #[.agg e.row, .agg f.row] w fun r w' => r = .returned (.int .i64 (ptI e f)) ∧ Below w.heap.size w w' := by
  have hA := new_obj w (.cells e.row 43)
  have b1 := alloc_below w (.cells e.row 43)
  have z1 : (w.alloc (.cells e.row 43)).heap.size = w.heap.size + 1 := by simp
  generalize hw0 : w.alloc (.cells e.row 43) = w0 at hA b1 z1
  have hB := new_obj w0 (.cells f.row 43)
  have b2 := alloc_below w0 (.cells f.row 43)
  replace hA := (b2.block _ (lt_of_block hA)).trans hA
  rw [z1] at hB
  have bel := seq_below b1 b2
  replace hw0 := hid1 hw0
  clear b1 b2 z1
  obtain ⟨r1, hr1⟩ : ∃ r, cmpI e.pt f.pt = r := ⟨_, rfl⟩
  obtain ⟨v1, hv1⟩ : ∃ r, bhI e = r := ⟨_, rfl⟩
  obtain ⟨v2, hv2⟩ : ∃ r, bhI f = r := ⟨_, rfl⟩
  obtain ⟨r2, hr2⟩ : ∃ r, cmpI v1 v2 = r := ⟨_, rfl⟩
  obtain ⟨r3, hr3⟩ : ∃ r, opI e f = r := ⟨_, rfl⟩
  obtain ⟨r, hr⟩ : ∃ r, ptI e f = r := ⟨_, rfl⟩
  have hor := hid1 (show orZ [r1, r2, r3] = r by rw [← hr, ← hr1, ← hr2, ← hr3, ← hv1, ← hv2]; rfl)
  have c1 := hid1 (fun w' => compare_any e.pt f.pt w')
  have c2 := hid1 (fun w' => compare_any v1 v2 w')
  have c4 := hid1 (fun w' => behind_any e w')
  have c5 := hid1 (fun w' => behind_any f w')
  have c6 := hid1 (fun w' => byOp_any e f w')
  rw [hr1] at c1
  rw [hr2] at c2
  unfold Ev.row at c4 c5 c6
  rw [hv1] at c4
  rw [hv2] at c5
  rw [hr3] at c6
  rw [hr]
  clear hr hr1 hr2 hr3 hv1 hv2
  have c3 := hid1 (fun (w' : World) (g : Nat) (h : w'.heap[g]? = some (.cells #[.int .i64 r1, .int .i64 r2, .int .i64 r3] 3 (0, 0))) => or_three hor.out h)
  go_enter Try.func37, Try.ntmps37
  go_upto_region 1 with fail
  rw [hw0.out]
  clear hw0
  generalize World.alloc _ _ = w1 at *
  generalize hbc : w.heap.size = bq at hA hB ⊢
  replace hbc := hid1 hbc
  obtain ⟨bb, hbb⟩ : ∃ ba, bq + 1 = ba := ⟨_, rfl⟩
  rw [hbb] at hB ⊢
  replace hbb := hid1 hbb
  have S0 : ∀ w', Below w1.heap.size w1 w' → (w'.cell? ⟨bq, 0, none⟩ = some (.int .i64 e.cl) ∧ w'.cell? ⟨bq, 1, none⟩ = some (.int .i64 e.op) ∧ w'.cell? ⟨bq, 2, none⟩ = some (.int .i64 e.bg) ∧ w'.cell? ⟨bq, 3, none⟩ = some (.int .i64 e.pt) ∧ w'.cell? ⟨bq, 4, none⟩ = some (.int .i64 e.en) ∧ w'.cell? ⟨bq, 5, none⟩ = some (.bool e.bh) ∧ w'.cell? ⟨bq, 6, none⟩ = some (.int .i64 e.kd) ∧ w'.cell? ⟨bq, 7, none⟩ = some (.int .i64 e.nn) ∧ w'.cell? ⟨bq, 8, none⟩ = some (.int .u64 (e.hh : Nat)) ∧ w'.cell? ⟨bq, 9, none⟩ = some (.int .u64 (e.hx : Nat)) ∧ w'.cell? ⟨bq, 10, none⟩ = some (.int .u64 (e.hy : Nat)) ∧ w'.cell? ⟨bq, 11, none⟩ = some (.int .i64 e.er) ∧ w'.cell? ⟨bq, 12, none⟩ = some (.int .u64 (e.ah : Nat)) ∧ w'.cell? ⟨bq, 13, none⟩ = some (.bool e.ay)) ∧ w'.cell? ⟨bb, 0, none⟩ = some (.int .i64 f.cl) ∧ w'.cell? ⟨bb, 1, none⟩ = some (.int .i64 f.op) ∧ w'.cell? ⟨bb, 2, none⟩ = some (.int .i64 f.bg) ∧ w'.cell? ⟨bb, 3, none⟩ = some (.int .i64 f.pt) ∧ w'.cell? ⟨bb, 4, none⟩ = some (.int .i64 f.en) ∧ w'.cell? ⟨bb, 5, none⟩ = some (.bool f.bh) ∧ w'.cell? ⟨bb, 6, none⟩ = some (.int .i64 f.kd) ∧ w'.cell? ⟨bb, 7, none⟩ = some (.int .i64 f.nn) ∧ w'.cell? ⟨bb, 8, none⟩ = some (.int .u64 (f.hh : Nat)) ∧ w'.cell? ⟨bb, 9, none⟩ = some (.int .u64 (f.hx : Nat)) ∧ w'.cell? ⟨bb, 10, none⟩ = some (.int .u64 (f.hy : Nat)) ∧ w'.cell? ⟨bb, 11, none⟩ = some (.int .i64 f.er) ∧ w'.cell? ⟨bb, 12, none⟩ = some (.int .u64 (f.ah : Nat)) ∧ w'.cell? ⟨bb, 13, none⟩ = some (.bool f.ay) := fun w' b => by
    have h1 := (b.block _ (lt_of_block hA)).trans hA
    have h2 := (b.block _ (lt_of_block hB)).trans hB
    exact ⟨ev_cells2 h1, ev_cells2 h2⟩
  replace S0 := hid1 S0
  have BW := Below.refl w1.heap.size w1
  clear hA hB
  go_region_held (fun wr => (wr.cell? ⟨bq, 0, none⟩ = some (.int .i64 e.cl) ∧ wr.cell? ⟨bq, 1, none⟩ = some (.int .i64 e.op) ∧ wr.cell? ⟨bq, 2, none⟩ = some (.int .i64 e.bg) ∧ wr.cell? ⟨bq, 3, none⟩ = some (.int .i64 e.pt) ∧ wr.cell? ⟨bq, 4, none⟩ = some (.int .i64 e.en) ∧ wr.cell? ⟨bq, 5, none⟩ = some (.bool e.bh) ∧ wr.cell? ⟨bq, 6, none⟩ = some (.int .i64 e.kd) ∧ wr.cell? ⟨bq, 7, none⟩ = some (.int .i64 e.nn) ∧ wr.cell? ⟨bq, 8, none⟩ = some (.int .u64 (e.hh : Nat)) ∧ wr.cell? ⟨bq, 9, none⟩ = some (.int .u64 (e.hx : Nat)) ∧ wr.cell? ⟨bq, 10, none⟩ = some (.int .u64 (e.hy : Nat)) ∧ wr.cell? ⟨bq, 11, none⟩ = some (.int .i64 e.er) ∧ wr.cell? ⟨bq, 12, none⟩ = some (.int .u64 (e.ah : Nat)) ∧ wr.cell? ⟨bq, 13, none⟩ = some (.bool e.ay)) ∧ wr.cell? ⟨bb, 0, none⟩ = some (.int .i64 f.cl) ∧ wr.cell? ⟨bb, 1, none⟩ = some (.int .i64 f.op) ∧ wr.cell? ⟨bb, 2, none⟩ = some (.int .i64 f.bg) ∧ wr.cell? ⟨bb, 3, none⟩ = some (.int .i64 f.pt) ∧ wr.cell? ⟨bb, 4, none⟩ = some (.int .i64 f.en) ∧ wr.cell? ⟨bb, 5, none⟩ = some (.bool f.bh) ∧ wr.cell? ⟨bb, 6, none⟩ = some (.int .i64 f.kd) ∧ wr.cell? ⟨bb, 7, none⟩ = some (.int .i64 f.nn) ∧ wr.cell? ⟨bb, 8, none⟩ = some (.int .u64 (f.hh : Nat)) ∧ wr.cell? ⟨bb, 9, none⟩ = some (.int .u64 (f.hx : Nat)) ∧ wr.cell? ⟨bb, 10, none⟩ = some (.int .u64 (f.hy : Nat)) ∧ wr.cell? ⟨bb, 11, none⟩ = some (.int .i64 f.er) ∧ wr.cell? ⟨bb, 12, none⟩ = some (.int .u64 (f.ah : Nat)) ∧ wr.cell? ⟨bb, 13, none⟩ = some (.bool f.ay))
    (first | with_reducible exact S0.out _ BW | with_reducible exact S0.out _ BW.drew | with_reducible exact S0.out _ (seq_below BW (alloc_below _ _)) | with_reducible exact S0.out _ (seq_below BW (alloc_below _ _)).drew)
    (first | (go_at_call 49; with_reducible refine (c1.out _).mono ?_; rintro e w' ⟨rfl, rfl⟩) | (go_at_call 49; with_reducible refine (c2.out _).mono ?_; rintro e w' ⟨rfl, rfl⟩) | (go_at_call 50; with_reducible refine (c4.out _).mono ?_; rintro e w' ⟨rfl, b⟩; replace BW := by first | exact seq_below BW b | exact below_or BW b) | (go_at_call 50; with_reducible refine (c5.out _).mono ?_; rintro e w' ⟨rfl, b⟩; replace BW := by first | exact seq_below BW b | exact below_or BW b) | (go_at_call 35; with_reducible refine (c6.out _).mono ?_; rintro e w' ⟨rfl, b⟩; replace BW := by first | exact seq_below BW b | exact below_or BW b) | (go_at_call 48; with_reducible refine (c3.out _ _ (new_obj _ _)).mono ?_; rintro e w' ⟨rfl, rfl⟩))
  all_goals
    go_wp2
    go_ret
    exact ⟨rfl, seq_below bel (seq_below BW (alloc_below _ _))⟩
end Go.Proofs.Ytecppcakgfohbab
