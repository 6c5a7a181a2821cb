/- A step of a hand that reads, the act beginning. -/
import Derived.Test.YtnegdabcjnhpdaaGreatDoorGH
import Derived.Test.YtnegdabcjnhpdaaGreatDoorGG
import Derived.BigQuiet
import Derived.BigRegion
import Derived.Deep.RegionHeld3
namespace Go.Proofs.YtnegdabcjnhpdaaGreatDoor
open Go.RowKit
open Mm (IsMem MS touched Only)
open Hh (WT)
set_option maxRecDepth 100000 in
set_option maxHeartbeats 16000000 in
theorem step_read_b {w : World} {lo Wb H M G B : Nat} {u : Wl} {v : Value} {C : Array Value} {o : Nat} {own : List Nat} {acts : List Ac} {a0 : Ac}
    (ht : Wt w lo Wb M G B u v) (hb : w.heap[H]? = some (.cells C 58 (0, 0))) (hh : HnAt w lo Wb H M G B C o own ⟨a0 :: acts, none⟩) (hn : 5 ≤ u.next ∧ u.next ≤ 40) (hk0 : (a0.norm u.next).kind = 0) (hne : H ≠ M ∧ H ≠ G ∧ H ≠ B ∧ H ≠ Wb) (hlo : lo ≤ H) (hT : u.g.T + 3 < 4611686018427387904) (hd : u.done.length < 1000000) :
    Calls Tryz.prog 13 #[.pointer (some ⟨H, o, none⟩), .pointer (some ⟨Wb, 0, none⟩)] w fun e w' => e = .returned (.tuple #[]) ∧ ∃ Q, Std w w' lo Wb H M G B C o own (fin (a0.norm u.next) acts (beg (a0.norm u.next) u).2.g.T (mstep B Q (a0.norm u.next) (beg (a0.norm u.next) u).1 (beg (a0.norm u.next) u).2)) := by
  obtain ⟨Rz, hRz⟩ : ∃ Rz : World → Prop, Hid (Rz = fun w' => ∃ Q, Std w w' lo Wb H M G B C o own (fin (a0.norm u.next) acts (beg (a0.norm u.next) u).2.g.T (mstep B Q (a0.norm u.next) (beg (a0.norm u.next) u).1 (beg (a0.norm u.next) u).2))) := ⟨_, rfl⟩
  refine Calls.mono (show Calls Tryz.prog 13 #[.pointer (some ⟨H, o, none⟩), .pointer (some ⟨Wb, 0, none⟩)] w (fun e w' => e = .returned (.tuple #[]) ∧ Rz w') from ?_) (fun e w' h => by rw [hRz.out] at h; exact h)
  have cB := begins2_any ht hb hh hne hlo (by omega) hn
  have hown0 := (hh.idle rfl).2.2.2
  have hsz := hh.sz
  have m0 : w.cell? ⟨H, o + 1, none⟩ = some (.pointer none) := Blk.cell (t := 58) hb (hh.idle rfl).1
  obtain ⟨a, ha⟩ : ∃ a, a0.norm u.next = a := ⟨_, rfl⟩
  rw [ha] at hk0 cB hRz
  clear ha
  obtain ⟨r, hbeg⟩ : ∃ r, beg a u = (.read r, u) := by unfold beg; rw [if_pos hk0]; exact ⟨_, rfl⟩
  unfold Bgd2 at cB
  rw [hbeg] at cB hRz
  simp only at cB hRz
  clear hbeg hk0 hh ht hb
  go_enter Tryz.func13, Tryz.ntmps13
  go_upto_region 1 with (go_at_call 29; with_reducible refine cB.mono ?_; rintro e wb ⟨rfl, C1, own1, ⟨va, hva, hact⟩, ht1, hb1, hs1, hh1, cd1, ho1⟩)
  clear cB m0
  have ix : Ix w wb lo Wb H M G B own1 u v C1 := ⟨ht1, hb1, cd1.mono (by simp), hne, hh1.own, hlo⟩
  have hszC : o + 10 ≤ C1.size := by rw [hs1.size]; exact hsz
  obtain ⟨A, h1, hA, hmc, hkd⟩ := hh1.busy a _ rfl
  obtain ⟨h5, h6, P, c, h2, hown, hP, hR, hRok⟩ := hmc
  replace hkd : a.kind = 0 := hkd
  have hPm : P ∈ own1 := by rw [hown]; simp
  have m1 := ix.cellH h1
  have x6 : wb.cell? ⟨Wb, 6, none⟩ = some (.pointer (some ⟨M, 0, none⟩)) := ix.cellW rfl
  have cA : ∀ {wr : World} {A : Nat} {a : Ac}, wr.heap[A]? = some (.cells (acC a) 51 (0, 0)) → wr.cell? ⟨A, 0, none⟩ = some (.int .i64 a.kind) ∧ wr.cell? ⟨A, 1, none⟩ = some (.int .i64 a.fld) ∧ wr.cell? ⟨A, 2, none⟩ = some (.int .i64 a.val) ∧ wr.cell? ⟨A, 3, none⟩ = some (.int .i64 a.expect) := fun {wr} {A} {a} (h : Blk wr A (acC a) 51) => ⟨h.cell rfl, h.cell rfl, h.cell rfl, h.cell rfl⟩
  obtain ⟨ak, af, av, ae⟩ := a
  replace hkd : ak = 0 := hkd
  subst hkd
  obtain ⟨a0, a1, a2, a3⟩ := cA hA
  simp only at a0 a1 a2 a3
  have cT : ∀ wr u v C, Ix w wr lo Wb H M G B own1 u v C → Calls Tryz.prog 30 #[.pointer (some ⟨M, 0, none⟩)] wr fun e w' => e = .returned (.int .i64 u.g.T) ∧ wr = w' := fun wr u v C x => touchesX x.t.gw.mem
  have hTs := r.step_T KC B u.g
  have cR : ∀ wr, Ix w wr lo Wb H M G B own1 u v C1 → wr.heap[P]? = some (.cells c 90 (0, 0)) → Calls Tryz.prog 31 #[.pointer (some ⟨P, 0, none⟩), .pointer (some ⟨M, 0, none⟩)] wr fun e w' => e = .returned (.bool (decide ((r.step KC B u.g).1.pc = 2))) ∧ ∃ c', Ix w w' lo Wb H M G B own1 { u with g := (r.step KC B u.g).2 } v C1 ∧ w'.heap[P]? = some (.cells c' 90 (0, 0)) ∧ RdAt c' B KC (r.step KC B u.g).1 ∧ (∀ (i : Nat) (cc : Array Value) (f : Nat × Nat), wr.heap[i]? = some (.cells cc 51 f) → w'.heap[i]? = wr.heap[i]?) := fun wr x hp =>
    (rd_any KC_ok (by decide) (x.inF hp hPm) hR hRok (by omega)).mono fun _ _ ⟨e1, c', i2, i3⟩ => ⟨e1, c', x.stepped hp hPm (by decide) i2, i2.blk, i3, (Ix.stepped ⟨x.t, x.hb, Cd.refl _ _ _, x.ne, x.l, x.lo⟩ hp hPm (by decide) i2).cd.acts⟩
  have hro := Rd.step_ok KC_ok (by decide) hRok (ht1.gw.mem.fits 0) ht1.gw.now
  have hgT : decide (u.g.T + 1 < (r.step KC B u.g).2.T) = false := by simp; omega
  have hfd : (r.step KC B u.g).1.pc = 2 → ∀ Q, fin ⟨0, af, av, ae⟩ acts u.g.T (mstep B Q ⟨0, af, av, ae⟩ (.read r) u) = (⟨acts, none⟩, { u with g := (r.step KC B u.g).2, done := u.done ++ [⟨(r.step KC B u.g).1.point, true, ⟨0, af, av, ae⟩, (r.step KC B u.g).1.val, false⟩] }) := fun h Q => by simp only [fin, mstep, h, if_true, hgT, Bool.or_false, Option.map_none]
  have hfn : ¬ (r.step KC B u.g).1.pc = 2 → ∀ Q, fin ⟨0, af, av, ae⟩ acts u.g.T (mstep B Q ⟨0, af, av, ae⟩ (.read r) u) = (⟨acts, some (⟨0, af, av, ae⟩, .read (r.step KC B u.g).1)⟩, { u with g := (r.step KC B u.g).2 }) := fun h Q => by simp only [fin, mstep, h, if_false, hgT, Bool.or_false, Option.map_some]
  generalize r.step KC B u.g = rg at *
  obtain ⟨r', g'⟩ := rg
  simp only at hTs cR hro hgT hfd hfn
  have hTT : ¬ u.g.T + 1 < g'.T := by omega
  have hgb : -4611686018427387904 < u.g.T ∧ u.g.T < 4611686018427387904 := by have := ht1.gw.tb; omega
  clear hgT
  have hcd : ∀ w', Ix w w' lo Wb H M G B own1 { u with g := g' } v C1 → (∀ (i : Nat) (cc : Array Value) (f : Nat × Nat), wb.heap[i]? = some (.cells cc 51 f) → w'.heap[i]? = wb.heap[i]?) → w'.heap[A]? = some (.cells (acC ⟨0, af, av, ae⟩) 51 (0, 0)) := fun w' x hx => (hx A _ _ hA).trans hA
  have hS : ∀ wr u v, Ix w wr lo Wb H M G B own1 u v C1 → wr.cell? ⟨H, o + 2, none⟩ = some (.pointer (some ⟨P, 0, none⟩)) ∧ wr.cell? ⟨Wb, 6, none⟩ = some (.pointer (some ⟨M, 0, none⟩)) := fun wr u v x => ⟨x.cellH h2, x.cellW rfl⟩
  have hadr : ∀ wr : World, (∀ (i : Nat) (cc : Array Value) (f : Nat × Nat), wb.heap[i]? = some (.cells cc 51 f) → wr.heap[i]? = wb.heap[i]?) → ∀ w' : World, (∀ (i : Nat) (cc : Array Value) (f : Nat × Nat), wr.heap[i]? = some (.cells cc 51 f) → w'.heap[i]? = wr.heap[i]?) → (∀ (i : Nat) (cc : Array Value) (f : Nat × Nat), wb.heap[i]? = some (.cells cc 51 f) → w'.heap[i]? = wb.heap[i]?) := fun wr h w' h' i cc f hi => by
    have e := h i cc f hi
    rw [h' i cc f (e.trans hi), e]
  clear hR hRok hh1 hb1 hT
  go_upto_region 3 with (go_at_call 30; with_reducible refine (cT _ _ _ _ ix).mono ?_; rintro e w0 ⟨rfl, rfl⟩)
  have hA2 : Blk (wb.alloc (.cells #[.int .i64 0, .int .i64 af, .int .i64 av, .int .i64 ae] 51)) wb.heap.size (acC ⟨0, af, av, ae⟩) 51 := new_obj wb _
  have bA := alloc_below wb (.cells #[.int .i64 0, .int .i64 af, .int .i64 av, .int .i64 ae] 51)
  replace ix := ix.below bA
  replace hP := (bA.block P (lt_of_block hP)).trans hP
  have had := fun (i : Nat) (cc : Array Value) (f : Nat × Nat) (hi : wb.heap[i]? = some (.cells cc 51 f)) => bA.block i (lt_of_block hi)
  clear bA a0 a1 a2 a3 m1 x6
  generalize wb.alloc (.cells #[.int .i64 0, .int .i64 af, .int .i64 av, .int .i64 ae] 51) = w1 at *
  generalize hA2e : wb.heap.size = A2 at *
  replace hA2e : Hid (wb.heap.size = A2) := hA2e
  obtain ⟨a0, a1, a2, a3⟩ := cA hA2
  simp only at a0 a1 a2 a3
  by_cases hpc : r'.pc = 2
  · rw [show decide (r'.pc = 2) = true by simp [hpc]] at cR
    replace hfd := hfd hpc
    clear hpc
    go_upto_region 8 with fail
    have ix := ix.drew
    replace hP : w1.drew.heap[P]? = _ := hP
    clear a0 a1 a2 a3
    go_region_held (fun wr => wr.cell? ⟨H, o + 2, none⟩ = some (.pointer (some ⟨P, 0, none⟩)) ∧ wr.cell? ⟨Wb, 6, none⟩ = some (.pointer (some ⟨M, 0, none⟩))) (first | with_reducible exact hS _ _ _ ix | with_reducible exact hS _ _ _ i2)
      ((go_at_call 31; with_reducible refine (cR _ ix hP).mono ?_; rintro e w3 ⟨rfl, c', i2, hP', hR', hac⟩))
    have hA3 : Blk w3 A2 (acC ⟨0, af, av, ae⟩) 51 := (hac A2 _ _ hA2).trans hA2
    go_upto_region 9 with fail
    clear hac
    have i3 := i2.drew
    have hP3 : w3.drew.heap[P]? = some (.cells c' 90 (0, 0)) := hP'
    obtain ⟨a0, a1, a2, a3⟩ := cA (show w3.drew.heap[A2]? = _ from hA3)
    simp only at a0 a1 a2 a3
    have x9 : w3.drew.cell? ⟨Wb, 9, none⟩ = some v := i3.cellW rfl
    have fW9 := i3.freeW 9
    have m2 := i3.cellH h2
    have p2 : w3.drew.cell? ⟨P, 2, none⟩ = some (.int .i64 r'.point) := Blk.cell (t := 90) hP3 hR'.point
    have p1 : w3.drew.cell? ⟨P, 1, none⟩ = some (.int .i64 r'.val) := Blk.cell (t := 90) hP3 hR'.val
    obtain ⟨g, cap, w4, hrun, hgr, how⟩ := appended i3 hd ⟨r'.point, true, ⟨0, af, av, ae⟩, r'.val, false⟩
    have i4 := i3.grown hgr how
    have y9 : (w3.alloc (.cells #[.int .i64 r'.point, .bool true, .int .i64 0, .int .i64 af, .int .i64 av, .int .i64 ae, .int .i64 r'.val, .bool false] 61)).drew.cell? ⟨Wb, 9, none⟩ = some v := (i3.below (alloc_below _ (.cells #[.int .i64 r'.point, .bool true, .int .i64 0, .int .i64 af, .int .i64 av, .int .i64 ae, .int .i64 r'.val, .bool false] 61))).cellW rfl
    have hrun' : (Builtin.append_ #[33, 33] 33 #[v, .slice (some ⟨w3.heap.size, 0, none⟩) 1 1]).run Tryz.prog (w3.alloc (.cells #[.int .i64 r'.point, .bool true, .int .i64 0, .int .i64 af, .int .i64 av, .int .i64 ae, .int .i64 r'.val, .bool false] 61)).drew = .ok (.slice (some ⟨g, 0, none⟩) (u.done.length + 1) cap) w4 := hrun
    have hWl : Wb < (w3.drew.alloc (.cells (dnC ⟨r'.point, true, ⟨0, af, av, ae⟩, r'.val, false⟩).toArray 61)).heap.size := Nat.lt_of_lt_of_le (lt_of_block i3.t.blk) (alloc_below _ _).size
    have j9 : w4.cell? ⟨Wb, 9, none⟩ = some v := by
      rw [World.grownBy.cell_far hgr ⟨Wb, 9, none⟩ hWl (row_far i3.t.row i3.t.blk (by decide))]
      exact (i3.below (alloc_below _ _)).cellW rfl
    have jf : w4.frozen? ⟨Wb, 9, none⟩ = false := by
      rw [World.grownBy.frozen_far hgr ⟨Wb, 9, none⟩ hWl (row_far i3.t.row i3.t.blk (by decide))]
      exact (i3.below (alloc_below _ _)).freeW 9
    clear hrun hgr how hWl hP3 hR' hP' i2
    simp [go_sem] at hrun'
    go_big_region
    clear hrun' y9 x9 fW9 m2 p2 p1 j9 jf a0 a1 a2 a3 i3
    generalize w4.setCell ⟨Wb, 9, none⟩ _ = w5 at i4 ⊢
    have m1 := i4.cellH h1
    have fH1 := i4.freeH (o + 1)
    go_upto_region 13 with fail
    replace i4 := i4.setH (o + 1) (.pointer none)
    generalize w5.setCell ⟨H, o + 1, none⟩ (.pointer none) = w6 at i4 ⊢
    clear m1 fH1
    have x6 : w6.cell? ⟨Wb, 6, none⟩ = some (.pointer (some ⟨M, 0, none⟩)) := i4.cellW rfl
    go_wp2_with (go_at_call 30; with_reducible refine (cT _ _ _ _ i4).mono ?_; rintro e w0 ⟨rfl, rfl⟩)
    go_end0
    refine ⟨rfl, ?_⟩
    rw [hRz.out]
    refine ⟨0, ?_⟩
    rw [hfd]
    refine Std.mono (L := own1) (std_idle (w0 := w) i4 (hs1.trans (Same.set _ _ (by omega))) hsz (by rw [get_set_ne (by omega)]; exact hva) hact ( i4.cd) (get_set (by first | omega | (have := hszC; omega))) (by rw [get_set_ne (by omega)]; exact h5) (by rw [get_set_ne (by omega)]; exact h6)) (fun i hi => .inr (ho1 i hi))
  · rw [show decide (r'.pc = 2) = false by simp [hpc]] at cR
    replace hfn := hfn hpc
    clear hpc
    go_upto_region 8 with fail
    have ix := ix.drew
    replace hP : w1.drew.heap[P]? = _ := hP
    clear a0 a1 a2 a3
    go_region_held (fun wr => wr.cell? ⟨H, o + 2, none⟩ = some (.pointer (some ⟨P, 0, none⟩)) ∧ wr.cell? ⟨Wb, 6, none⟩ = some (.pointer (some ⟨M, 0, none⟩))) (first | with_reducible exact hS _ _ _ ix | with_reducible exact hS _ _ _ i2)
      ((go_at_call 31; with_reducible refine (cR _ ix hP).mono ?_; rintro e w3 ⟨rfl, c', i2, hP', hR', hac⟩))
    have x6 : w3.cell? ⟨Wb, 6, none⟩ = some (.pointer (some ⟨M, 0, none⟩)) := i2.cellW rfl
    have hA9 := hcd _ i2 (hadr _ had _ hac)
    go_wp2_with (go_at_call 30; with_reducible refine (cT _ _ _ _ i2).mono ?_; rintro e w0 ⟨rfl, rfl⟩)
    go_end0
    refine ⟨rfl, ?_⟩
    rw [hRz.out]
    refine ⟨0, ?_⟩
    rw [hfn]
    refine Std.mono (L := own1) (std_busy (w0 := w) i2 (hs1.trans (Same.refl _ _ _)) hsz hva hact ( i2.cd) h1 hA9 ⟨h5, h6, P, c', h2, rfl, hP', hR', hro⟩ rfl (fun i hi => by simp at hi; rw [hi]; exact .inl hPm)) (fun i hi => .inr (ho1 i hi))
end Go.Proofs.YtnegdabcjnhpdaaGreatDoor
