/- For a hand's step: something more is appended; what a Lay's step keeps. -/
import Derived.Test.YtnegdabcjnhpdaaGreatDoorGD
import Derived.BigQuiet
import Derived.BigRegion
import Derived.Deep.RegionHeld3
import Derived.Test.YtnegdabcjnhpdaaGreatDoorGG
namespace Go.Proofs.YtnegdabcjnhpdaaGreatDoor
open Go.RowKit
open Mm (IsMem MS touched Only)
open Hh (WT)
theorem inf86 : ∃ i z, Tryz.prog.info? 61 = some i ∧ i.zero = some z ∧ i.size = 8 ∧ i.bytes = 64 ∧ z.cells.size = 8 := by
  have h : (Tryz.prog.info? 61).map (fun i => (i.size, i.bytes, i.zero.map (·.cells.size))) = some (8, 64, some 8) := by kernel_rfl
  cases hi : Tryz.prog.info? 61 with
  | none => rw [hi] at h; cases h
  | some i =>
    rw [hi] at h
    simp only [Option.map_some, Option.some.injEq, Prod.mk.injEq] at h
    obtain ⟨h1, h2, h3⟩ := h
    cases hz : i.zero with
    | none => rw [hz] at h3; cases h3
    | some z =>
      rw [hz] at h3
      exact ⟨i, z, rfl, hz, h1, h2, by simpa using h3⟩
/-- Something more is appended. -/
theorem appended {w wr : World} {lo Wb H M G B : Nat} {L : List Nat} {u : Wl} {v : Value} {C : Array Value} (h : Ix w wr lo Wb H M G B L u v C) (hd : u.done.length < 1000000) (x : Dn) :
    ∃ g cap w2, (Builtin.append_ #[33, 33] 33 #[v, .slice (some ⟨wr.heap.size, 0, none⟩) 1 1]).run Tryz.prog (wr.alloc (.cells (dnC x).toArray 61)) = .ok (.slice (some ⟨g, 0, none⟩) (u.done.length + 1) cap) w2 ∧
      (wr.alloc (.cells (dnC x).toArray 61)).grownBy w2 v.ownBlock ∧ w2.ownsRow lo 61 8 (.slice (some ⟨g, 0, none⟩) (u.done.length + 1) cap) (u.done.length + 1) (dnR u.done ++ dnC x) := by
  obtain ⟨i, z, hi, hz, hs, hb, hzs⟩ := inf86
  have h1 := h.below (alloc_below wr (.cells (dnC x).toArray 61))
  obtain ⟨g, cap, w2, r1, r2, r3, _, _⟩ := run_append_lies (P := Tryz.prog) (wr.alloc (.cells (dnC x).toArray 61)) 33 33 lo 61 i z 8 64 Tryz.underlying33 hi hz hs hb hzs (by omega) v u.done.length (dnR u.done) h1.t.row ⟨wr.heap.size, 0, none⟩ 1 1 (dnC x) rfl
    (World.news_of_block (cs := (dnC x).toArray) (t := 61) (fr := (0, 0)) (heap_alloc_new _ _)) (by simp [dnC, Value.oneCell']) (by omega) (by unfold maxLen; omega) (by omega) (by have := h1.t.gw.lo1; omega) _ rfl
  exact ⟨g, cap, w2, r1, r3, r2⟩
theorem Std.mono {w w' : World} {lo Wb H M G B : Nat} {C : Array Value} {o : Nat} {L L' : List Nat} {x : Hn × Wl} (h : Std w w' lo Wb H M G B C o L x) (hL : ∀ i ∈ L, i ∈ L' ∨ w.heap.size ≤ i) : Std w w' lo Wb H M G B C o L' x := by
  obtain ⟨C', own', v', h1, h2, h3, h4, h5, h6⟩ := h
  refine ⟨C', own', v', h1, h2, h3, h4, h5.mono (fun i hi => ?_), fun i hi => ?_⟩
  · simp only [List.mem_cons] at hi ⊢
    rcases hi with k | k | k | k | k | k
    · exact .inl (.inl k)
    · exact .inl (.inr (.inl k))
    · exact .inl (.inr (.inr (.inl k)))
    · exact .inl (.inr (.inr (.inr (.inl k))))
    · exact .inl (.inr (.inr (.inr (.inr (.inl k)))))
    · rcases hL i k with q | q
      · exact .inl (.inr (.inr (.inr (.inr (.inr q)))))
      · exact .inr q
  · rcases h6 i hi with k | k
    · exact hL i k
    · exact .inr k
theorem La.step_Q0 (r : La) (K : Cf) (B Q : Nat) (g : Gs) : (r.step K B Q g).1.pc = (r.step K B 0 g).1.pc ∧ (r.step K B Q g).2 = (r.step K B 0 g).2 ∧ (r.step K B Q g).1.point = (r.step K B 0 g).1.point ∧ (r.step K B Q g).1.laid = (r.step K B 0 g).1.laid := by
  unfold La.step
  split
  · exact ⟨rfl, rfl, rfl, rfl⟩
  split
  · exact ⟨rfl, rfl, rfl, rfl⟩
  split
  · split <;> exact ⟨rfl, rfl, rfl, rfl⟩
  · exact ⟨rfl, rfl, rfl, rfl⟩
theorem La.step_qs (r : La) (K : Cf) (B Q : Nat) (g : Gs) : ∀ i ∈ (r.step K B Q g).1.qs, i ∈ r.qs ∨ i = Q := by
  have key : ∀ r' : La, r'.sh = r.sh → ∀ i ∈ r'.qs, i ∈ r.qs ∨ i = Q := fun r' h i hi => .inl (by unfold La.qs at hi ⊢; rw [h] at hi; exact hi)
  unfold La.step
  split
  · refine key _ ?_
    show (if _ then _ else _ : La).sh = _
    split
    · rfl
    · exact (La.found_keeps _ _).1
  split
  · exact key _ (La.comp_keeps _ _ _).1
  split
  · split
    · intro i hi
      simp [La.qs] at hi
      exact .inr hi
    · exact key _ rfl
  split
  · split
    · rename_i s hs
      intro i hi
      simp [La.qs, (s.step_Q r.e g).1] at hi
      left
      simp [La.qs, hs, hi]
    · exact key _ rfl
  split
  · exact key _ (La.swap_keeps _ _ _ _).1
  split
  · exact key _ (La.stamp_keeps _ _).1
  · exact key _ rfl
theorem La.qs_cells {l : La} {w : World} {lo M G B P : Nat} (h : l.Sh w lo M G B P) {i : Nat} (hi : i ∈ l.qs) : ∃ cc t, w.heap[i]? = some (.cells cc t (0, 0)) ∧ t ≠ 51 ∧ t ≠ 61 := by
  unfold La.qs at hi
  split at hi
  · rename_i s hs
    simp at hi
    subst hi
    exact ⟨_, _, (h s hs).1, by decide, by decide⟩
  · cases hi
end Go.Proofs.YtnegdabcjnhpdaaGreatDoor
/- A step of a hand that reads. -/
namespace Go.Proofs.YtnegdabcjnhpdaaGreatDoor
open Go.RowKit
open Mm (IsMem MS touched Only)
open Hh (WT)
set_option maxRecDepth 100000 in
set_option maxHeartbeats 16000000 in
theorem step_read {w : World} {lo Wb H M G B : Nat} {u : Wl} {v : Value} {C : Array Value} {o : Nat} {own : List Nat} {acts : List Ac} {a : Ac} {r : Rd}
    (ht : Wt w lo Wb M G B u v) (hb : w.heap[H]? = some (.cells C 58 (0, 0))) (hh : HnAt w lo Wb H M G B C o own ⟨acts, some (a, .read r)⟩) (hne : H ≠ M ∧ H ≠ G ∧ H ≠ B ∧ H ≠ Wb) (hlo : lo ≤ H) (hT : u.g.T + 3 < 4611686018427387904) (hd : u.done.length < 1000000) :
    Calls Tryz.prog 13 #[.pointer (some ⟨H, o, none⟩), .pointer (some ⟨Wb, 0, none⟩)] w fun e w' => e = .returned (.tuple #[]) ∧ ∃ Q, Std w w' lo Wb H M G B C o own (fin a acts u.g.T (mstep B Q a (.read r) u)) := by
  obtain ⟨Rz, hRz⟩ : ∃ Rz : World → Prop, Hid (Rz = fun w' => ∃ Q, Std w w' lo Wb H M G B C o own (fin a acts u.g.T (mstep B Q a (.read r) u))) := ⟨_, rfl⟩
  refine Calls.mono (show Calls Tryz.prog 13 #[.pointer (some ⟨H, o, none⟩), .pointer (some ⟨Wb, 0, none⟩)] w (fun e w' => e = .returned (.tuple #[]) ∧ Rz w') from ?_) (fun e w' h => by rw [hRz.out] at h; exact h)
  have ix : Ix w w lo Wb H M G B own u v C := ⟨ht, hb, Cd.refl _ _ _, hne, hh.own, hlo⟩
  obtain ⟨va, hva, hact⟩ := hh.acts
  obtain ⟨A, h1, hA, hmc, hkd⟩ := hh.busy a _ rfl
  obtain ⟨h5, h6, P, c, h2, hown, hP, hR, hRok⟩ := hmc
  replace hkd : a.kind = 0 := hkd
  have hsz := hh.sz
  have hPm : P ∈ own := by rw [hown]; simp
  have m1 := ix.cellH h1
  have x6 : w.cell? ⟨Wb, 6, none⟩ = some (.pointer (some ⟨M, 0, none⟩)) := ix.cellW rfl
  have cA : ∀ {wr : World} {A : Nat} {a : Ac}, wr.heap[A]? = some (.cells (acC a) 51 (0, 0)) → wr.cell? ⟨A, 0, none⟩ = some (.int .i64 a.kind) ∧ wr.cell? ⟨A, 1, none⟩ = some (.int .i64 a.fld) ∧ wr.cell? ⟨A, 2, none⟩ = some (.int .i64 a.val) ∧ wr.cell? ⟨A, 3, none⟩ = some (.int .i64 a.expect) := fun {wr} {A} {a} (h : Blk wr A (acC a) 51) => ⟨h.cell rfl, h.cell rfl, h.cell rfl, h.cell rfl⟩
  obtain ⟨ak, af, av, ae⟩ := a
  replace hkd : ak = 0 := hkd
  subst hkd
  obtain ⟨a0, a1, a2, a3⟩ := cA hA
  simp only at a0 a1 a2 a3
  have cT : ∀ wr u v C, Ix w wr lo Wb H M G B own u v C → Calls Tryz.prog 30 #[.pointer (some ⟨M, 0, none⟩)] wr fun e w' => e = .returned (.int .i64 u.g.T) ∧ wr = w' := fun wr u v C x => touchesX x.t.gw.mem
  have hTs := r.step_T KC B u.g
  have cR : ∀ wr, Ix w wr lo Wb H M G B own u v C → wr.heap[P]? = some (.cells c 90 (0, 0)) → Calls Tryz.prog 31 #[.pointer (some ⟨P, 0, none⟩), .pointer (some ⟨M, 0, none⟩)] wr fun e w' => e = .returned (.bool (decide ((r.step KC B u.g).1.pc = 2))) ∧ ∃ c', Ix w w' lo Wb H M G B own { u with g := (r.step KC B u.g).2 } v C ∧ w'.heap[P]? = some (.cells c' 90 (0, 0)) ∧ RdAt c' B KC (r.step KC B u.g).1 ∧ (∀ (i : Nat) (cc : Array Value) (f : Nat × Nat), wr.heap[i]? = some (.cells cc 51 f) → w'.heap[i]? = wr.heap[i]?) := fun wr x hp =>
    (rd_any KC_ok (by decide) (x.inF hp hPm) hR hRok (by omega)).mono fun _ _ ⟨e1, c', i2, i3⟩ => ⟨e1, c', x.stepped hp hPm (by decide) i2, i2.blk, i3, (Ix.stepped ⟨x.t, x.hb, Cd.refl _ _ _, x.ne, x.l, x.lo⟩ hp hPm (by decide) i2).cd.acts⟩
  have hro := Rd.step_ok KC_ok (by decide) hRok (ht.gw.mem.fits 0) ht.gw.now
  have hgT : decide (u.g.T + 1 < (r.step KC B u.g).2.T) = false := by simp; omega
  have hfd : (r.step KC B u.g).1.pc = 2 → ∀ Q, fin ⟨0, af, av, ae⟩ acts u.g.T (mstep B Q ⟨0, af, av, ae⟩ (.read r) u) = (⟨acts, none⟩, { u with g := (r.step KC B u.g).2, done := u.done ++ [⟨(r.step KC B u.g).1.point, true, ⟨0, af, av, ae⟩, (r.step KC B u.g).1.val, false⟩] }) := fun h Q => by simp only [fin, mstep, h, if_true, hgT, Bool.or_false, Option.map_none]
  have hfn : ¬ (r.step KC B u.g).1.pc = 2 → ∀ Q, fin ⟨0, af, av, ae⟩ acts u.g.T (mstep B Q ⟨0, af, av, ae⟩ (.read r) u) = (⟨acts, some (⟨0, af, av, ae⟩, .read (r.step KC B u.g).1)⟩, { u with g := (r.step KC B u.g).2 }) := fun h Q => by simp only [fin, mstep, h, if_false, hgT, Bool.or_false, Option.map_some]
  generalize r.step KC B u.g = rg at *
  obtain ⟨r', g'⟩ := rg
  simp only at hTs cR hro hgT hfd hfn
  have hTT : ¬ u.g.T + 1 < g'.T := by omega
  have hgb : -4611686018427387904 < u.g.T ∧ u.g.T < 4611686018427387904 := by have := ht.gw.tb; omega
  clear hgT
  have hcd : ∀ w', Ix w w' lo Wb H M G B own { u with g := g' } v C → (∀ (i : Nat) (cc : Array Value) (f : Nat × Nat), w.heap[i]? = some (.cells cc 51 f) → w'.heap[i]? = w.heap[i]?) → w'.heap[A]? = some (.cells (acC ⟨0, af, av, ae⟩) 51 (0, 0)) := fun w' x hx => (hx A _ _ hA).trans hA
  have hS : ∀ wr u v, Ix w wr lo Wb H M G B own u v C → wr.cell? ⟨H, o + 2, none⟩ = some (.pointer (some ⟨P, 0, none⟩)) ∧ wr.cell? ⟨Wb, 6, none⟩ = some (.pointer (some ⟨M, 0, none⟩)) := fun wr u v x => ⟨x.cellH h2, x.cellW rfl⟩
  have hadr : ∀ wr : World, (∀ (i : Nat) (cc : Array Value) (f : Nat × Nat), w.heap[i]? = some (.cells cc 51 f) → wr.heap[i]? = w.heap[i]?) → ∀ w' : World, (∀ (i : Nat) (cc : Array Value) (f : Nat × Nat), wr.heap[i]? = some (.cells cc 51 f) → w'.heap[i]? = wr.heap[i]?) → (∀ (i : Nat) (cc : Array Value) (f : Nat × Nat), w.heap[i]? = some (.cells cc 51 f) → w'.heap[i]? = w.heap[i]?) := fun wr h w' h' i cc f hi => by
    have e := h i cc f hi
    rw [h' i cc f (e.trans hi), e]
  clear hR hRok hh ht hb hT
  go_enter Tryz.func13, Tryz.ntmps13
  go_upto_region 3 with (go_at_call 30; with_reducible refine (cT _ _ _ _ ix).mono ?_; rintro e w0 ⟨rfl, rfl⟩)
  have hA2 : Blk (w.alloc (.cells #[.int .i64 0, .int .i64 af, .int .i64 av, .int .i64 ae] 51)) w.heap.size (acC ⟨0, af, av, ae⟩) 51 := new_obj w _
  have bA := alloc_below w (.cells #[.int .i64 0, .int .i64 af, .int .i64 av, .int .i64 ae] 51)
  replace ix := ix.below bA
  replace hP := (bA.block P (lt_of_block hP)).trans hP
  have had := fun (i : Nat) (cc : Array Value) (f : Nat × Nat) (hi : w.heap[i]? = some (.cells cc 51 f)) => bA.block i (lt_of_block hi)
  clear bA a0 a1 a2 a3 m1 x6
  generalize w.alloc (.cells #[.int .i64 0, .int .i64 af, .int .i64 av, .int .i64 ae] 51) = w1 at *
  generalize hA2e : w.heap.size = A2 at *
  replace hA2e : Hid (w.heap.size = A2) := hA2e
  obtain ⟨a0, a1, a2, a3⟩ := cA hA2
  simp only at a0 a1 a2 a3
  by_cases hpc : r'.pc = 2
  · rw [show decide (r'.pc = 2) = true by simp [hpc]] at cR
    replace hfd := hfd hpc
    clear hpc
    go_upto_region 8 with fail
    have ix := ix.drew
    replace hP : w1.drew.heap[P]? = _ := hP
    clear a0 a1 a2 a3
    go_region_held (fun wr => wr.cell? ⟨H, o + 2, none⟩ = some (.pointer (some ⟨P, 0, none⟩)) ∧ wr.cell? ⟨Wb, 6, none⟩ = some (.pointer (some ⟨M, 0, none⟩))) (first | with_reducible exact hS _ _ _ ix | with_reducible exact hS _ _ _ i2)
      ((go_at_call 31; with_reducible refine (cR _ ix hP).mono ?_; rintro e w3 ⟨rfl, c', i2, hP', hR', hac⟩))
    have hA3 : Blk w3 A2 (acC ⟨0, af, av, ae⟩) 51 := (hac A2 _ _ hA2).trans hA2
    go_upto_region 9 with fail
    clear hac
    have i3 := i2.drew
    have hP3 : w3.drew.heap[P]? = some (.cells c' 90 (0, 0)) := hP'
    obtain ⟨a0, a1, a2, a3⟩ := cA (show w3.drew.heap[A2]? = _ from hA3)
    simp only at a0 a1 a2 a3
    have x9 : w3.drew.cell? ⟨Wb, 9, none⟩ = some v := i3.cellW rfl
    have fW9 := i3.freeW 9
    have m2 := i3.cellH h2
    have p2 : w3.drew.cell? ⟨P, 2, none⟩ = some (.int .i64 r'.point) := Blk.cell (t := 90) hP3 hR'.point
    have p1 : w3.drew.cell? ⟨P, 1, none⟩ = some (.int .i64 r'.val) := Blk.cell (t := 90) hP3 hR'.val
    obtain ⟨g, cap, w4, hrun, hgr, how⟩ := appended i3 hd ⟨r'.point, true, ⟨0, af, av, ae⟩, r'.val, false⟩
    have i4 := i3.grown hgr how
    have y9 : (w3.alloc (.cells #[.int .i64 r'.point, .bool true, .int .i64 0, .int .i64 af, .int .i64 av, .int .i64 ae, .int .i64 r'.val, .bool false] 61)).drew.cell? ⟨Wb, 9, none⟩ = some v := (i3.below (alloc_below _ (.cells #[.int .i64 r'.point, .bool true, .int .i64 0, .int .i64 af, .int .i64 av, .int .i64 ae, .int .i64 r'.val, .bool false] 61))).cellW rfl
    have hrun' : (Builtin.append_ #[33, 33] 33 #[v, .slice (some ⟨w3.heap.size, 0, none⟩) 1 1]).run Tryz.prog (w3.alloc (.cells #[.int .i64 r'.point, .bool true, .int .i64 0, .int .i64 af, .int .i64 av, .int .i64 ae, .int .i64 r'.val, .bool false] 61)).drew = .ok (.slice (some ⟨g, 0, none⟩) (u.done.length + 1) cap) w4 := hrun
    have hWl : Wb < (w3.drew.alloc (.cells (dnC ⟨r'.point, true, ⟨0, af, av, ae⟩, r'.val, false⟩).toArray 61)).heap.size := Nat.lt_of_lt_of_le (lt_of_block i3.t.blk) (alloc_below _ _).size
    have j9 : w4.cell? ⟨Wb, 9, none⟩ = some v := by
      rw [World.grownBy.cell_far hgr ⟨Wb, 9, none⟩ hWl (row_far i3.t.row i3.t.blk (by decide))]
      exact (i3.below (alloc_below _ _)).cellW rfl
    have jf : w4.frozen? ⟨Wb, 9, none⟩ = false := by
      rw [World.grownBy.frozen_far hgr ⟨Wb, 9, none⟩ hWl (row_far i3.t.row i3.t.blk (by decide))]
      exact (i3.below (alloc_below _ _)).freeW 9
    clear hrun hgr how hWl hP3 hR' hP' i2
    simp [go_sem] at hrun'
    go_big_region
    clear hrun' y9 x9 fW9 m2 p2 p1 j9 jf a0 a1 a2 a3 i3
    generalize w4.setCell ⟨Wb, 9, none⟩ _ = w5 at i4 ⊢
    have m1 := i4.cellH h1
    have fH1 := i4.freeH (o + 1)
    go_upto_region 13 with fail
    replace i4 := i4.setH (o + 1) (.pointer none)
    generalize w5.setCell ⟨H, o + 1, none⟩ (.pointer none) = w6 at i4 ⊢
    clear m1 fH1
    have x6 : w6.cell? ⟨Wb, 6, none⟩ = some (.pointer (some ⟨M, 0, none⟩)) := i4.cellW rfl
    go_wp2_with (go_at_call 30; with_reducible refine (cT _ _ _ _ i4).mono ?_; rintro e w0 ⟨rfl, rfl⟩)
    go_end0
    refine ⟨rfl, ?_⟩
    rw [hRz.out]
    refine ⟨0, ?_⟩
    rw [hfd]
    exact (std_idle (w0 := w) i4 (Same.set _ _ (by omega)) hsz (by rw [get_set_ne (by omega)]; exact hva) hact ( i4.cd) (get_set (by first | omega | (have := hszC; omega))) (by rw [get_set_ne (by omega)]; exact h5) (by rw [get_set_ne (by omega)]; exact h6))
  · rw [show decide (r'.pc = 2) = false by simp [hpc]] at cR
    replace hfn := hfn hpc
    clear hpc
    go_upto_region 8 with fail
    have ix := ix.drew
    replace hP : w1.drew.heap[P]? = _ := hP
    clear a0 a1 a2 a3
    go_region_held (fun wr => wr.cell? ⟨H, o + 2, none⟩ = some (.pointer (some ⟨P, 0, none⟩)) ∧ wr.cell? ⟨Wb, 6, none⟩ = some (.pointer (some ⟨M, 0, none⟩))) (first | with_reducible exact hS _ _ _ ix | with_reducible exact hS _ _ _ i2)
      ((go_at_call 31; with_reducible refine (cR _ ix hP).mono ?_; rintro e w3 ⟨rfl, c', i2, hP', hR', hac⟩))
    have x6 : w3.cell? ⟨Wb, 6, none⟩ = some (.pointer (some ⟨M, 0, none⟩)) := i2.cellW rfl
    have hA9 := hcd _ i2 (hadr _ had _ hac)
    go_wp2_with (go_at_call 30; with_reducible refine (cT _ _ _ _ i2).mono ?_; rintro e w0 ⟨rfl, rfl⟩)
    go_end0
    refine ⟨rfl, ?_⟩
    rw [hRz.out]
    refine ⟨0, ?_⟩
    rw [hfn]
    exact (std_busy (w0 := w) i2 (Same.refl _ _ _) hsz hva hact ( i2.cd) h1 hA9 ⟨h5, h6, P, c', h2, rfl, hP', hR', hro⟩ rfl (fun i hi => by simp at hi; rw [hi]; exact .inl hPm))
end Go.Proofs.YtnegdabcjnhpdaaGreatDoor
