/- A step of a hand that lays. -/
import Derived.Test.YtnegdabcjnhpdaaGreatDoorGH
import Derived.Test.YtnegdabcjnhpdaaGreatDoorGG
import Derived.BigQuiet
import Derived.BigRegion
import Derived.Deep.RegionHeld3
namespace Go.Proofs.YtnegdabcjnhpdaaGreatDoor
open Go.RowKit
open Mm (IsMem MS touched Only)
open Hh (WT)
set_option maxRecDepth 100000 in
set_option maxHeartbeats 16000000 in
theorem step_lay {w : World} {lo Wb H M G B : Nat} {u : Wl} {v : Value} {C : Array Value} {o : Nat} {own : List Nat} {acts : List Ac} {a : Ac} {l : La}
    (ht : Wt w lo Wb M G B u v) (hb : w.heap[H]? = some (.cells C 58 (0, 0))) (hh : HnAt w lo Wb H M G B C o own ⟨acts, some (a, .lay l)⟩) (hne : H ≠ M ∧ H ≠ G ∧ H ≠ B ∧ H ≠ Wb) (hlo : lo ≤ H) (hT : u.g.T + 3 < 4611686018427387904) (hd : u.done.length < 1000000) :
    Calls Tryz.prog 13 #[.pointer (some ⟨H, o, none⟩), .pointer (some ⟨Wb, 0, none⟩)] w fun e w' => e = .returned (.tuple #[]) ∧ ∃ Q, Std w w' lo Wb H M G B C o own (fin a acts u.g.T (mstep B Q a (.lay l) u)) := by
  obtain ⟨Rz, hRz⟩ : ∃ Rz : World → Prop, Hid (Rz = fun w' => ∃ Q, Std w w' lo Wb H M G B C o own (fin a acts u.g.T (mstep B Q a (.lay l) u))) := ⟨_, rfl⟩
  refine Calls.mono (show Calls Tryz.prog 13 #[.pointer (some ⟨H, o, none⟩), .pointer (some ⟨Wb, 0, none⟩)] w (fun e w' => e = .returned (.tuple #[]) ∧ Rz w') from ?_) (fun e w' h => by rw [hRz.out] at h; exact h)
  have ix : Ix w w lo Wb H M G B own u v C := ⟨ht, hb, Cd.refl _ _ _, hne, hh.own, hlo⟩
  obtain ⟨va, hva, hact⟩ := hh.acts
  obtain ⟨A, h1, hA, hmc, hkd⟩ := hh.busy a _ rfl
  obtain ⟨h5, h6, P, c, h2, hown, hP, hR, hRok, hSh⟩ := hmc
  replace hkd : a.kind = 1 ∨ a.kind = 2 := hkd
  have hsz := hh.sz
  have hPm : P ∈ own := by rw [hown]; simp
  have m1 := ix.cellH h1
  have x6 : w.cell? ⟨Wb, 6, none⟩ = some (.pointer (some ⟨M, 0, none⟩)) := ix.cellW rfl
  have cA : ∀ {wr : World} {A : Nat} {a : Ac}, wr.heap[A]? = some (.cells (acC a) 51 (0, 0)) → wr.cell? ⟨A, 0, none⟩ = some (.int .i64 a.kind) ∧ wr.cell? ⟨A, 1, none⟩ = some (.int .i64 a.fld) ∧ wr.cell? ⟨A, 2, none⟩ = some (.int .i64 a.val) ∧ wr.cell? ⟨A, 3, none⟩ = some (.int .i64 a.expect) := fun {wr} {A} {a} (h : Blk wr A (acC a) 51) => ⟨h.cell rfl, h.cell rfl, h.cell rfl, h.cell rfl⟩
  obtain ⟨ak, af, av, ae⟩ := a
  replace hkd : ak = 1 ∨ ak = 2 := hkd
  have hk00 : ¬ ak = 0 := by omega
  have hk33 : ¬ ak = 3 := by omega
  have hkk : Hid (ak = 1 ∨ ak = 2) := hkd
  clear hkd
  obtain ⟨a0, a1, a2, a3⟩ := cA hA
  simp only at a0 a1 a2 a3
  have cT : ∀ wr u v C, Ix w wr lo Wb H M G B own u v C → Calls Tryz.prog 30 #[.pointer (some ⟨M, 0, none⟩)] wr fun e w' => e = .returned (.int .i64 u.g.T) ∧ wr = w' := fun wr u v C x => touchesX x.t.gw.mem
  have hTs := l.step_T KC B 0 u.g
  have hQ := fun Q => l.step_Q0 KC B Q u.g
  have cR : ∀ wr, Ix w wr lo Wb H M G B own u v C → wr.heap[P]? = some (.cells c 94 (0, 0)) → l.Sh wr lo M G B P → Calls Tryz.prog 33 #[.pointer (some ⟨P, 0, none⟩), .pointer (some ⟨M, 0, none⟩)] wr fun e w' => e = .returned (.bool (decide ((l.step KC B 0 u.g).1.pc = 6))) ∧ ∃ Q c', Ix w w' lo Wb H M G B own { u with g := (l.step KC B 0 u.g).2 } v C ∧ w'.heap[P]? = some (.cells c' 94 (0, 0)) ∧ LaAt c' B KC (l.step KC B Q u.g).1 ∧ (l.step KC B Q u.g).1.Sh w' lo M G B P ∧ wr.heap.size ≤ Q ∧ (∀ (i : Nat) (cc : Array Value) (f : Nat × Nat), wr.heap[i]? = some (.cells cc 51 f) → w'.heap[i]? = wr.heap[i]?) := fun wr x hp hs => by
    have hl7 : ∀ i ∈ P :: l.qs, ∃ cc t, wr.heap[i]? = some (.cells cc t (0, 0)) ∧ t ≠ 51 ∧ t ≠ 61 := fun i hi => by
      simp only [List.mem_cons] at hi
      rcases hi with rfl | hi
      · exact ⟨c, 94, hp, by decide, by decide⟩
      · exact La.qs_cells hs hi
    have hlL : ∀ i ∈ P :: l.qs, i ∈ own ∨ wr.heap.size ≤ i := fun i hi => .inl (by rw [hown]; exact hi)
    refine (la_any KC_ok (by decide) (x.inF hp hPm) hR hRok hs (by omega)).mono fun e w' ⟨Q, e1, e2, e3⟩ => ?_
    rw [(hQ Q).1] at e1
    obtain ⟨c', q1, q2⟩ := e2.blk
    have hcm : Cm lo (M :: G :: B :: P :: l.qs) wr w' := e2.cm.mono (fun i hi => by simp only [List.mem_cons] at hi ⊢; rcases hi with k | k | k | k | k <;> simp [k])
    have hgw := e2.gw
    rw [(hQ Q).2.1] at hgw
    exact ⟨e1, Q, c', x.mach hgw hcm hlL hl7, q1, q2, e2.sh, e3, (Ix.mach ⟨x.t, x.hb, Cd.refl _ _ _, x.ne, x.l, x.lo⟩ hgw hcm hlL hl7).cd.acts⟩
  have hro := fun Q => La.step_ok KC_ok (by decide) hRok Q (fun i => ht.gw.mem.fits i) ht.gw.now
  have hqs : ∀ Q, ∀ i ∈ (l.step KC B Q u.g).1.qs, i ∈ l.qs ∨ i = Q := fun Q => l.step_qs KC B Q u.g
  have hgT : decide (u.g.T + 1 < (l.step KC B 0 u.g).2.T) = false := by simp; omega
  have hfd : (l.step KC B 0 u.g).1.pc = 6 → ∀ Q, fin ⟨ak, af, av, ae⟩ acts u.g.T (mstep B Q ⟨ak, af, av, ae⟩ (.lay l) u) = (⟨acts, none⟩, { u with g := (l.step KC B 0 u.g).2, done := u.done ++ [⟨(l.step KC B 0 u.g).1.point, !(l.step KC B 0 u.g).1.laid, ⟨ak, af, av, ae⟩, 0, (l.step KC B 0 u.g).1.laid⟩] }) := fun h Q => by
    obtain ⟨q1, q2, q3, q4⟩ := hQ Q
    simp only [fin, mstep, q1, q2, q3, q4, h, if_true, hgT, Bool.or_false, Option.map_none]
  have hfn : ¬ (l.step KC B 0 u.g).1.pc = 6 → ∀ Q, fin ⟨ak, af, av, ae⟩ acts u.g.T (mstep B Q ⟨ak, af, av, ae⟩ (.lay l) u) = (⟨acts, some (⟨ak, af, av, ae⟩, .lay (l.step KC B Q u.g).1)⟩, { u with g := (l.step KC B 0 u.g).2 }) := fun h Q => by
    obtain ⟨q1, q2, q3, q4⟩ := hQ Q
    simp only [fin, mstep, q1, q2, h, if_false, hgT, Bool.or_false, Option.map_some]
  have hQ1 : ∀ Q, (l.step KC B Q u.g).1.point = (l.step KC B 0 u.g).1.point ∧ (l.step KC B Q u.g).1.laid = (l.step KC B 0 u.g).1.laid := fun Q => ⟨(hQ Q).2.2.1, (hQ Q).2.2.2⟩
  clear hQ
  obtain ⟨L1, hL1⟩ : ∃ L1 : Nat → La, (fun Q => (l.step KC B Q u.g).1) = L1 := ⟨_, rfl⟩
  replace hL1 : ∀ Q, (l.step KC B Q u.g).1 = L1 Q := fun Q => congrFun hL1 Q
  simp only [hL1] at hTs cR hro hqs hgT hfd hfn hQ1
  clear hL1
  generalize (l.step KC B 0 u.g).2 = g' at *
  generalize hr' : L1 0 = r' at *
  clear hr'
  have hTT : ¬ u.g.T + 1 < g'.T := by omega
  have hgb : -4611686018427387904 < u.g.T ∧ u.g.T < 4611686018427387904 := by have := ht.gw.tb; omega
  clear hgT
  have hcd : ∀ w', Ix w w' lo Wb H M G B own { u with g := g' } v C → (∀ (i : Nat) (cc : Array Value) (f : Nat × Nat), w.heap[i]? = some (.cells cc 51 f) → w'.heap[i]? = w.heap[i]?) → w'.heap[A]? = some (.cells (acC ⟨ak, af, av, ae⟩) 51 (0, 0)) := fun w' x hx => (hx A _ _ hA).trans hA
  have hS : ∀ wr u v, Ix w wr lo Wb H M G B own u v C → wr.cell? ⟨H, o + 3, none⟩ = some (.pointer (some ⟨P, 0, none⟩)) ∧ wr.cell? ⟨Wb, 6, none⟩ = some (.pointer (some ⟨M, 0, none⟩)) := fun wr u v x => ⟨x.cellH h2, x.cellW rfl⟩
  have hadr : ∀ wr : World, (∀ (i : Nat) (cc : Array Value) (f : Nat × Nat), w.heap[i]? = some (.cells cc 51 f) → wr.heap[i]? = w.heap[i]?) → ∀ w' : World, (∀ (i : Nat) (cc : Array Value) (f : Nat × Nat), wr.heap[i]? = some (.cells cc 51 f) → w'.heap[i]? = wr.heap[i]?) → (∀ (i : Nat) (cc : Array Value) (f : Nat × Nat), w.heap[i]? = some (.cells cc 51 f) → w'.heap[i]? = w.heap[i]?) := fun wr h w' h' i cc f hi => by
    have e := h i cc f hi
    rw [h' i cc f (e.trans hi), e]
  clear hR hRok hh ht hb hT
  go_enter Tryz.func13, Tryz.ntmps13
  go_upto_region 3 with (go_at_call 30; with_reducible refine (cT _ _ _ _ ix).mono ?_; rintro e w0 ⟨rfl, rfl⟩)
  have hA2 : Blk (w.alloc (.cells #[.int .i64 ak, .int .i64 af, .int .i64 av, .int .i64 ae] 51)) w.heap.size (acC ⟨ak, af, av, ae⟩) 51 := new_obj w _
  have bA := alloc_below w (.cells #[.int .i64 ak, .int .i64 af, .int .i64 av, .int .i64 ae] 51)
  replace ix := ix.below bA
  replace hP := (bA.block P (lt_of_block hP)).trans hP
  have had := fun (i : Nat) (cc : Array Value) (f : Nat × Nat) (hi : w.heap[i]? = some (.cells cc 51 f)) => bA.block i (lt_of_block hi)
  replace hSh : l.Sh (w.alloc (.cells #[.int .i64 ak, .int .i64 af, .int .i64 av, .int .i64 ae] 51)) lo M G B P := fun s hs => by
    obtain ⟨q1, q2⟩ := hSh s hs
    exact ⟨IsShd.cm (lo := lo) (L := []) q1 (Cm.of_below bA) (by simp), q2⟩
  clear bA a0 a1 a2 a3 m1 x6
  generalize w.alloc (.cells #[.int .i64 ak, .int .i64 af, .int .i64 av, .int .i64 ae] 51) = w1 at *
  generalize hA2e : w.heap.size = A2 at *
  replace hA2e : Hid (w.heap.size = A2) := hA2e
  obtain ⟨a0, a1, a2, a3⟩ := cA hA2
  simp only at a0 a1 a2 a3
  by_cases hpc : r'.pc = 6
  · rw [show decide (r'.pc = 6) = true by simp [hpc]] at cR
    replace hfd := hfd hpc
    clear hpc
    go_upto_region 4 with fail
    have ix := ix.drew
    replace hP : w1.drew.heap[P]? = _ := hP
    replace hSh : l.Sh w1.drew lo M G B P := hSh
    clear a0 a1 a2 a3
    go_region_held (fun wr => wr.cell? ⟨H, o + 3, none⟩ = some (.pointer (some ⟨P, 0, none⟩)) ∧ wr.cell? ⟨Wb, 6, none⟩ = some (.pointer (some ⟨M, 0, none⟩))) (first | with_reducible exact hS _ _ _ ix | with_reducible exact hS _ _ _ i2)
      ((go_at_call 33; with_reducible refine (cR _ ix hP hSh).mono ?_; rintro e w3 ⟨rfl, Q, c', i2, hP', hR', hSh2, hQl, hac⟩))
    have hA3 : Blk w3 A2 (acC ⟨ak, af, av, ae⟩) 51 := (hac A2 _ _ hA2).trans hA2
    go_upto_region 5 with fail
    clear hac
    have i3 := i2.drew
    have hP3 : w3.drew.heap[P]? = some (.cells c' 94 (0, 0)) := hP'
    obtain ⟨a0, a1, a2, a3⟩ := cA (show w3.drew.heap[A2]? = _ from hA3)
    simp only at a0 a1 a2 a3
    have x9 : w3.drew.cell? ⟨Wb, 9, none⟩ = some v := i3.cellW rfl
    have fW9 := i3.freeW 9
    have m2 := i3.cellH h2
    have p2 : w3.drew.cell? ⟨P, 1, none⟩ = some (.int .i64 r'.point) := by
      have := Blk.cell (t := 94) hP3 hR'.point
      rw [(hQ1 Q).1] at this; exact this
    have p1 : w3.drew.cell? ⟨P, 0, none⟩ = some (.bool r'.laid) := by
      have := Blk.cell (t := 94) hP3 hR'.laid
      rw [(hQ1 Q).2] at this; exact this
    have y9 : (w3.alloc (.cells #[.int .i64 r'.point, .bool (!r'.laid), .int .i64 ak, .int .i64 af, .int .i64 av, .int .i64 ae, .int .i64 0, .bool r'.laid] 61)).drew.cell? ⟨Wb, 9, none⟩ = some v := (i3.below (alloc_below _ (.cells #[.int .i64 r'.point, .bool (!r'.laid), .int .i64 ak, .int .i64 af, .int .i64 av, .int .i64 ae, .int .i64 0, .bool r'.laid] 61))).cellW rfl
    clear i2
    have hRP := (hQ1 Q).1
    have hRL := (hQ1 Q).2
    obtain ⟨i86, z86, hi86, hz86, hs86, hb86, hzs86⟩ := inf86
    have iA := i3.below (alloc_below w3.drew (.cells #[.int .i64 r'.point, .bool (!r'.laid), .int .i64 ak, .int .i64 af, .int .i64 av, .int .i64 ae, .int .i64 0, .bool r'.laid] 61))
    have hrow3 : (w3.alloc (.cells #[.int .i64 r'.point, .bool (!r'.laid), .int .i64 ak, .int .i64 af, .int .i64 av, .int .i64 ae, .int .i64 0, .bool r'.laid] 61)).drew.ownsRow lo 61 8 v u.done.length (dnR u.done) := iA.t.row
    have hnews : ∀ j u, (dnC ⟨r'.point, !r'.laid, ⟨ak, af, av, ae⟩, 0, r'.laid⟩)[j]? = some u → (w3.alloc (.cells #[.int .i64 r'.point, .bool (!r'.laid), .int .i64 ak, .int .i64 af, .int .i64 av, .int .i64 ae, .int .i64 0, .bool r'.laid] 61)).drew.cell? ((⟨w3.heap.size, 0, none⟩ : Addr).add j) = some u := World.news_of_block (cs := (dnC ⟨r'.point, !r'.laid, ⟨ak, af, av, ae⟩, 0, r'.laid⟩).toArray) (t := 61) (fr := (0, 0)) (heap_alloc_new w3.drew (.cells #[.int .i64 r'.point, .bool (!r'.laid), .int .i64 ak, .int .i64 af, .int .i64 av, .int .i64 ae, .int .i64 0, .bool r'.laid] 61))
    have hmx : u.done.length + 1 ≤ maxLen := by unfold maxLen; have := hd; omega
    have hby : (u.done.length + 1) * 64 ≤ 140737488355328 := by have := hd; omega
    have hbs : lo ≤ (w3.alloc (.cells #[.int .i64 r'.point, .bool (!r'.laid), .int .i64 ak, .int .i64 af, .int .i64 av, .int .i64 ae, .int .i64 0, .bool r'.laid] 61)).drew.heap.size := iA.t.gw.lo1.2.2.2.2
    have hfar : ∀ w4, ((w3.alloc (.cells #[.int .i64 r'.point, .bool (!r'.laid), .int .i64 ak, .int .i64 af, .int .i64 av, .int .i64 ae, .int .i64 0, .bool r'.laid] 61)).drew).grownBy w4 v.ownBlock → ∀ (i : Nat) (c : Array Value) (t : TypeId) (f : Nat × Nat), (w3.alloc (.cells #[.int .i64 r'.point, .bool (!r'.laid), .int .i64 ak, .int .i64 af, .int .i64 av, .int .i64 ae, .int .i64 0, .bool r'.laid] 61)).drew.heap[i]? = some (.cells c t f) → t ≠ 61 → w4.heap[i]? = some (.cells c t f) := fun w4 hg i c t f hi ht => (hg.block i (lt_of_block hi) (row_far hrow3 hi ht)).trans hi
    have bH : (w3.alloc (.cells #[.int .i64 r'.point, .bool (!r'.laid), .int .i64 ak, .int .i64 af, .int .i64 av, .int .i64 ae, .int .i64 0, .bool r'.laid] 61)).drew.heap[H]? = some (.cells C 58 (0, 0)) := iA.hb
    have bP : (w3.alloc (.cells #[.int .i64 r'.point, .bool (!r'.laid), .int .i64 ak, .int .i64 af, .int .i64 av, .int .i64 ae, .int .i64 0, .bool r'.laid] 61)).drew.heap[P]? = some (.cells c' 94 (0, 0)) := ((alloc_below w3.drew (.cells #[.int .i64 r'.point, .bool (!r'.laid), .int .i64 ak, .int .i64 af, .int .i64 av, .int .i64 ae, .int .i64 0, .bool r'.laid] 61)).block P (lt_of_block hP3)).trans hP3
    have bA : (w3.alloc (.cells #[.int .i64 r'.point, .bool (!r'.laid), .int .i64 ak, .int .i64 af, .int .i64 av, .int .i64 ae, .int .i64 0, .bool r'.laid] 61)).drew.heap[A2]? = some (.cells (acC ⟨ak, af, av, ae⟩) 51 (0, 0)) := ((alloc_below w3.drew (.cells #[.int .i64 r'.point, .bool (!r'.laid), .int .i64 ak, .int .i64 af, .int .i64 av, .int .i64 ae, .int .i64 0, .bool r'.laid] 61)).block A2 (lt_of_block (show w3.drew.heap[A2]? = _ from hA3))).trans hA3
    have bW : (w3.alloc (.cells #[.int .i64 r'.point, .bool (!r'.laid), .int .i64 ak, .int .i64 af, .int .i64 av, .int .i64 ae, .int .i64 0, .bool r'.laid] 61)).drew.heap[Wb]? = some (.cells (wlC M B u.next v u.bad) 35 (0, 0)) := iA.t.blk
    have hPW : P ≠ Wb := by rintro rfl; rw [bP] at bW; cases bW
    have hAW : A2 ≠ Wb := by rintro rfl; rw [bA] at bW; cases bW
    have hSof : ∀ wq : World, wq.heap[H]? = some (.cells C 58 (0, 0)) → wq.heap[P]? = some (.cells c' 94 (0, 0)) → wq.heap[A2]? = some (.cells (acC ⟨ak, af, av, ae⟩) 51 (0, 0)) → (fun wq : World => wq.cell? ⟨H, o + 3, none⟩ = some (.pointer (some ⟨P, 0, none⟩)) ∧ wq.cell? ⟨P, 1, none⟩ = some (.int .i64 r'.point) ∧ wq.cell? ⟨P, 0, none⟩ = some (.bool r'.laid) ∧ wq.cell? ⟨A2, 0, none⟩ = some (.int .i64 ak) ∧ wq.cell? ⟨A2, 1, none⟩ = some (.int .i64 af) ∧ wq.cell? ⟨A2, 2, none⟩ = some (.int .i64 av) ∧ wq.cell? ⟨A2, 3, none⟩ = some (.int .i64 ae)) wq := fun wq e1 e2 e3 => by
      obtain ⟨z0, z1, z2, z3⟩ := cA e3
      exact ⟨Blk.cell (t := 58) e1 h2, by rw [← hRP]; exact Blk.cell (t := 94) e2 hR'.point, by rw [← hRL]; exact Blk.cell (t := 94) e2 hR'.laid, z0, z1, z2, z3⟩
    have hS : (fun wq : World => wq.cell? ⟨H, o + 3, none⟩ = some (.pointer (some ⟨P, 0, none⟩)) ∧ wq.cell? ⟨P, 1, none⟩ = some (.int .i64 r'.point) ∧ wq.cell? ⟨P, 0, none⟩ = some (.bool r'.laid) ∧ wq.cell? ⟨A2, 0, none⟩ = some (.int .i64 ak) ∧ wq.cell? ⟨A2, 1, none⟩ = some (.int .i64 af) ∧ wq.cell? ⟨A2, 2, none⟩ = some (.int .i64 av) ∧ wq.cell? ⟨A2, 3, none⟩ = some (.int .i64 ae)) w3.drew := hSof _ i3.hb hP3 hA3
    clear iA
    replace hfar : Hid _ := hfar
    replace hi86 : Hid _ := hi86
    replace hz86 : Hid _ := hz86
    replace hs86 : Hid _ := hs86
    replace hb86 : Hid _ := hb86
    replace hzs86 : Hid _ := hzs86
    replace hmx : Hid _ := hmx
    replace hby : Hid _ := hby
    replace hbs : Hid _ := hbs
    replace hPW : Hid _ := hPW
    replace hAW : Hid _ := hAW
    clear hRP hRL
    replace hSof : Hid _ := hSof
    replace hnews : Hid _ := hnews
    replace hrow3 : Hid _ := hrow3
    replace bH : Hid _ := bH
    replace bP : Hid _ := bP
    replace bA : Hid _ := bA
    replace bW : Hid _ := bW
    refine wp_region_held_drew (S := (fun wq : World => wq.cell? ⟨H, o + 3, none⟩ = some (.pointer (some ⟨P, 0, none⟩)) ∧ wq.cell? ⟨P, 1, none⟩ = some (.int .i64 r'.point) ∧ wq.cell? ⟨P, 0, none⟩ = some (.bool r'.laid) ∧ wq.cell? ⟨A2, 0, none⟩ = some (.int .i64 ak) ∧ wq.cell? ⟨A2, 1, none⟩ = some (.int .i64 af) ∧ wq.cell? ⟨A2, 2, none⟩ = some (.int .i64 av) ∧ wq.cell? ⟨A2, 3, none⟩ = some (.int .i64 ae))) (by kernel_rfl) hS (fun hS => ?_)
    refine wpAnyH_take (i := 0) (v := .pointer (some ⟨Wb, 0, none⟩)) rfl (by kernel_rfl) (by kernel_rfl) (by kernel_rfl) (fun _ _ _ h => h) (Or.inl ⟨by rfl, fun w hSw => by (try dsimp only at hSw); go_simp⟩) hS ?_
    refine wpAnyH_take (i := 1) (v := .pointer (some ⟨Wb, 0, none⟩)) rfl (by kernel_rfl) (by kernel_rfl) (by kernel_rfl) (fun _ _ _ h => h) (Or.inl ⟨by rfl, fun w hSw => by (try dsimp only at hSw); go_simp⟩) hS ?_
    refine wpAnyH_take (i := 2) (v := .pointer (some ⟨Wb, 0, none⟩)) rfl (by kernel_rfl) (by kernel_rfl) (by kernel_rfl) (fun _ _ _ h => h) (Or.inl ⟨by rfl, fun w hSw => by (try dsimp only at hSw); go_simp⟩) hS ?_
    refine wpAnyH_take (i := 3) (v := .pointer (some ⟨Wb, 9, none⟩)) rfl (by kernel_rfl) (by kernel_rfl) (by kernel_rfl) (fun _ _ _ h => h) (Or.inl ⟨by rfl, fun w hSw => by (try dsimp only at hSw); go_simp⟩) hS ?_
    refine wpAnyH_take (i := 5) (v := .pointer (some ⟨H, o, none⟩)) rfl (by kernel_rfl) (by kernel_rfl) (by kernel_rfl) (fun _ _ _ h => h) (Or.inl ⟨by rfl, fun w hSw => by (try dsimp only at hSw); go_simp⟩) hS ?_
    refine wpAnyH_take (i := 6) (v := .pointer (some ⟨H, o, none⟩)) rfl (by kernel_rfl) (by kernel_rfl) (by kernel_rfl) (fun _ _ _ h => h) (Or.inl ⟨by rfl, fun w hSw => by (try dsimp only at hSw); go_simp⟩) hS ?_
    refine wpAnyH_take (i := 7) (v := .pointer (some ⟨H, o + 3, none⟩)) rfl (by kernel_rfl) (by kernel_rfl) (by kernel_rfl) (fun _ _ _ h => h) (Or.inl ⟨by rfl, fun w hSw => by (try dsimp only at hSw); go_simp⟩) hS ?_
    refine wpAnyH_take (i := 8) (v := .pointer (some ⟨P, 0, none⟩)) rfl (by kernel_rfl) (by kernel_rfl) (by kernel_rfl) (fun _ _ _ h => h) (Or.inl ⟨by rfl, fun w hSw => by (try dsimp only at hSw); go_simp⟩) hS ?_
    refine wpAnyH_take (i := 9) (v := .pointer (some ⟨P, 0, none⟩)) rfl (by kernel_rfl) (by kernel_rfl) (by kernel_rfl) (fun _ _ _ h => h) (Or.inl ⟨by rfl, fun w hSw => by (try dsimp only at hSw); go_simp⟩) hS ?_
    refine wpAnyH_take (i := 10) (v := .pointer (some ⟨P, 1, none⟩)) rfl (by kernel_rfl) (by kernel_rfl) (by kernel_rfl) (fun _ _ _ h => h) (Or.inl ⟨by rfl, fun w hSw => by (try dsimp only at hSw); go_simp⟩) hS ?_
    refine wpAnyH_take (i := 11) (v := .int .i64 r'.point) rfl (by kernel_rfl) (by kernel_rfl) (by kernel_rfl) (fun _ _ _ h => h) (Or.inl ⟨by rfl, fun w hSw => by (try dsimp only at hSw); go_simp⟩) hS ?_
    refine wpAnyH_take (i := 12) (v := .pointer (some ⟨H, o, none⟩)) rfl (by kernel_rfl) (by kernel_rfl) (by kernel_rfl) (fun _ _ _ h => h) (Or.inl ⟨by rfl, fun w hSw => by (try dsimp only at hSw); go_simp⟩) hS ?_
    refine wpAnyH_take (i := 13) (v := .pointer (some ⟨H, o, none⟩)) rfl (by kernel_rfl) (by kernel_rfl) (by kernel_rfl) (fun _ _ _ h => h) (Or.inl ⟨by rfl, fun w hSw => by (try dsimp only at hSw); go_simp⟩) hS ?_
    refine wpAnyH_take (i := 14) (v := .pointer (some ⟨H, o + 3, none⟩)) rfl (by kernel_rfl) (by kernel_rfl) (by kernel_rfl) (fun _ _ _ h => h) (Or.inl ⟨by rfl, fun w hSw => by (try dsimp only at hSw); go_simp⟩) hS ?_
    refine wpAnyH_take (i := 15) (v := .pointer (some ⟨P, 0, none⟩)) rfl (by kernel_rfl) (by kernel_rfl) (by kernel_rfl) (fun _ _ _ h => h) (Or.inl ⟨by rfl, fun w hSw => by (try dsimp only at hSw); go_simp⟩) hS ?_
    refine wpAnyH_take (i := 16) (v := .pointer (some ⟨P, 0, none⟩)) rfl (by kernel_rfl) (by kernel_rfl) (by kernel_rfl) (fun _ _ _ h => h) (Or.inl ⟨by rfl, fun w hSw => by (try dsimp only at hSw); go_simp⟩) hS ?_
    refine wpAnyH_take (i := 17) (v := .pointer (some ⟨P, 0, none⟩)) rfl (by kernel_rfl) (by kernel_rfl) (by kernel_rfl) (fun _ _ _ h => h) (Or.inl ⟨by rfl, fun w hSw => by (try dsimp only at hSw); go_simp⟩) hS ?_
    refine wpAnyH_take (i := 18) (v := .bool r'.laid) rfl (by kernel_rfl) (by kernel_rfl) (by kernel_rfl) (fun _ _ _ h => h) (Or.inl ⟨by rfl, fun w hSw => by (try dsimp only at hSw); go_simp⟩) hS ?_
    refine wpAnyH_take (i := 19) (v := .bool (!r'.laid)) rfl (by kernel_rfl) (by kernel_rfl) (by kernel_rfl) (fun _ _ _ h => h) (Or.inl ⟨by rfl, fun w hSw => by (try dsimp only at hSw); go_simp⟩) hS ?_
    refine wpAnyH_take (i := 20) (v := .agg #[.int .i64 ak, .int .i64 af, .int .i64 av, .int .i64 ae]) rfl (by kernel_rfl) (by kernel_rfl) (by kernel_rfl) (fun _ _ _ h => h) (Or.inl ⟨by rfl, fun w hSw => by (try dsimp only at hSw); go_simp⟩) hS ?_
    refine wpAnyH_take (i := 21) (v := .pointer (some ⟨H, o, none⟩)) rfl (by kernel_rfl) (by kernel_rfl) (by kernel_rfl) (fun _ _ _ h => h) (Or.inl ⟨by rfl, fun w hSw => by (try dsimp only at hSw); go_simp⟩) hS ?_
    refine wpAnyH_take (i := 22) (v := .pointer (some ⟨H, o, none⟩)) rfl (by kernel_rfl) (by kernel_rfl) (by kernel_rfl) (fun _ _ _ h => h) (Or.inl ⟨by rfl, fun w hSw => by (try dsimp only at hSw); go_simp⟩) hS ?_
    refine wpAnyH_take (i := 23) (v := .pointer (some ⟨H, o + 3, none⟩)) rfl (by kernel_rfl) (by kernel_rfl) (by kernel_rfl) (fun _ _ _ h => h) (Or.inl ⟨by rfl, fun w hSw => by (try dsimp only at hSw); go_simp⟩) hS ?_
    refine wpAnyH_take (i := 24) (v := .pointer (some ⟨P, 0, none⟩)) rfl (by kernel_rfl) (by kernel_rfl) (by kernel_rfl) (fun _ _ _ h => h) (Or.inl ⟨by rfl, fun w hSw => by (try dsimp only at hSw); go_simp⟩) hS ?_
    refine wpAnyH_take (i := 25) (v := .pointer (some ⟨P, 0, none⟩)) rfl (by kernel_rfl) (by kernel_rfl) (by kernel_rfl) (fun _ _ _ h => h) (Or.inl ⟨by rfl, fun w hSw => by (try dsimp only at hSw); go_simp⟩) hS ?_
    refine wpAnyH_take (i := 26) (v := .pointer (some ⟨P, 0, none⟩)) rfl (by kernel_rfl) (by kernel_rfl) (by kernel_rfl) (fun _ _ _ h => h) (Or.inl ⟨by rfl, fun w hSw => by (try dsimp only at hSw); go_simp⟩) hS ?_
    refine wpAnyH_take (i := 27) (v := .bool r'.laid) rfl (by kernel_rfl) (by kernel_rfl) (by kernel_rfl) (fun _ _ _ h => h) (Or.inl ⟨by rfl, fun w hSw => by (try dsimp only at hSw); go_simp⟩) hS ?_
    refine wpAnyH_take (i := 28) (v := .agg #[.int .i64 r'.point, .bool (!r'.laid), .int .i64 ak, .int .i64 af, .int .i64 av, .int .i64 ae, .int .i64 0, .bool r'.laid]) rfl (by kernel_rfl) (by kernel_rfl) (by kernel_rfl) (fun _ _ _ h => h) (Or.inl ⟨by rfl, fun w hSw => by (try dsimp only at hSw); go_simp⟩) hS ?_
    refine wpAnyH_ready (rs := [4, 29]) (by kernel_rfl) (by simp) ?_
    refine AllReadyH.cons rfl (fun K hK => ?_) (AllReadyH.cons rfl (fun K hK => ?_) AllReadyH.nil)
    · skip
      go_simp
      refine hK.out _ _ hS (fun hS => ?_)
      clear hK K
      refine wpAnyH_ready (rs := [29]) (by kernel_rfl) (by simp) (AllReadyH.cons rfl (fun K hK => ?_) AllReadyH.nil)
      go_simp
      refine hK.out _ _ (hSof.out _ bH.out bP.out bA.out) (fun hS => ?_)
      clear hK K
      refine wpAnyH_ready (rs := [30]) (by kernel_rfl) (by simp) (AllReadyH.cons rfl (fun K hK => ?_) AllReadyH.nil)
      refine step_append_lies _ (by rfl) _ _ _ (by rfl) lo 61 i86 z86 8 64 Tryz.underlying33 hi86.out hz86.out hs86.out hb86.out hzs86.out (by omega) v u.done.length (dnR u.done) (by rfl) hrow3.out ⟨w3.heap.size, 0, none⟩ 1 1 (dnC ⟨r'.point, !r'.laid, ⟨ak, af, av, ae⟩, 0, r'.laid⟩) (by rfl) rfl hnews.out (by simp [dnC, Value.oneCell']) (by omega) hmx.out hby.out hbs.out _ rfl ?_
      intro g cap w4 how hgr hat hlt
      refine hK.out _ _ (hSof.out _ (hfar.out _ hgr _ _ _ _ bH.out (by decide)) (hfar.out _ hgr _ _ _ _ bP.out (by decide)) (hfar.out _ hgr _ _ _ _ bA.out (by decide))) (fun hS => ?_)
      refine wpAnyH_take (i := 31) (v := .pointer (some ⟨Wb, 0, none⟩)) rfl (by kernel_rfl) (by kernel_rfl) (by kernel_rfl) (fun _ _ _ h => h) (Or.inl ⟨by rfl, fun w hSw => by (try dsimp only at hSw); go_simp⟩) hS ?_
      refine wpAnyH_take (i := 32) (v := .pointer (some ⟨Wb, 9, none⟩)) rfl (by kernel_rfl) (by kernel_rfl) (by kernel_rfl) (fun _ _ _ h => h) (Or.inl ⟨by rfl, fun w hSw => by (try dsimp only at hSw); go_simp⟩) hS ?_
      refine wpAnyH_ready (rs := [33]) (by kernel_rfl) (by simp) (AllReadyH.cons rfl (fun K hK => ?_) AllReadyH.nil)
      have bW4 := hfar.out _ hgr _ _ _ _ bW.out (by decide)
      have j9 : w4.cell? ⟨Wb, 9, none⟩ = some v := Blk.cell (t := 35) bW4 rfl
      have jf : w4.frozen? ⟨Wb, 9, none⟩ = false := Blk.free (t := 35) bW4 9
      go_simp
      refine hK.out _ _ (hSof.out _ ((Below.heap_setCell w4 ⟨Wb, 9, none⟩ _ H hne.2.2.2).trans (hfar.out _ hgr _ _ _ _ bH.out (by decide))) ((Below.heap_setCell w4 ⟨Wb, 9, none⟩ _ P hPW.out).trans (hfar.out _ hgr _ _ _ _ bP.out (by decide))) ((Below.heap_setCell w4 ⟨Wb, 9, none⟩ _ A2 hAW.out).trans (hfar.out _ hgr _ _ _ _ bA.out (by decide)))) (fun hS => ?_)
      refine wpAnyH_done (by kernel_rfl) ?_ _
      have i4 := i3.grown (x := ⟨r'.point, !r'.laid, ⟨ak, af, av, ae⟩, 0, r'.laid⟩) hgr how
      clear how hgr hat hlt bW4 j9 jf hS hrow3 hnews hfar bH bP bA bW hSof hK K
      clear x9 fW9 m2 p2 p1 a0 a1 a2 a3 i3
      generalize w4.setCell ⟨Wb, 9, none⟩ _ = w5 at i4 ⊢
      have m1 := i4.cellH h1
      have fH1 := i4.freeH (o + 1)
      go_upto_region 13 with fail
      replace i4 := i4.setH (o + 1) (.pointer none)
      generalize w5.setCell ⟨H, o + 1, none⟩ (.pointer none) = w6 at i4 ⊢
      clear m1 fH1
      have x6 : w6.cell? ⟨Wb, 6, none⟩ = some (.pointer (some ⟨M, 0, none⟩)) := i4.cellW rfl
      go_wp2_with (go_at_call 30; with_reducible refine (cT _ _ _ _ i4).mono ?_; rintro e w0 ⟨rfl, rfl⟩)
      go_end0
      refine ⟨rfl, ?_⟩
      rw [hRz.out]
      refine ⟨0, ?_⟩
      rw [hfd]
      exact (std_idle (w0 := w) i4 (Same.set _ _ (by omega)) hsz (by rw [get_set_ne (by omega)]; exact hva) hact ( i4.cd) (get_set (by first | omega | (have := hszC; omega))) (by rw [get_set_ne (by omega)]; exact h5) (by rw [get_set_ne (by omega)]; exact h6))
    · skip
      go_simp
      refine hK.out _ _ (hSof.out _ bH.out bP.out bA.out) (fun hS => ?_)
      clear hK K
      refine wpAnyH_ready (rs := [4]) (by kernel_rfl) (by simp) (AllReadyH.cons rfl (fun K hK => ?_) AllReadyH.nil)
      go_simp
      refine hK.out _ _ hS (fun hS => ?_)
      clear hK K
      refine wpAnyH_ready (rs := [30]) (by kernel_rfl) (by simp) (AllReadyH.cons rfl (fun K hK => ?_) AllReadyH.nil)
      refine step_append_lies _ (by rfl) _ _ _ (by rfl) lo 61 i86 z86 8 64 Tryz.underlying33 hi86.out hz86.out hs86.out hb86.out hzs86.out (by omega) v u.done.length (dnR u.done) (by rfl) hrow3.out ⟨w3.heap.size, 0, none⟩ 1 1 (dnC ⟨r'.point, !r'.laid, ⟨ak, af, av, ae⟩, 0, r'.laid⟩) (by rfl) rfl hnews.out (by simp [dnC, Value.oneCell']) (by omega) hmx.out hby.out hbs.out _ rfl ?_
      intro g cap w4 how hgr hat hlt
      refine hK.out _ _ (hSof.out _ (hfar.out _ hgr _ _ _ _ bH.out (by decide)) (hfar.out _ hgr _ _ _ _ bP.out (by decide)) (hfar.out _ hgr _ _ _ _ bA.out (by decide))) (fun hS => ?_)
      refine wpAnyH_take (i := 31) (v := .pointer (some ⟨Wb, 0, none⟩)) rfl (by kernel_rfl) (by kernel_rfl) (by kernel_rfl) (fun _ _ _ h => h) (Or.inl ⟨by rfl, fun w hSw => by (try dsimp only at hSw); go_simp⟩) hS ?_
      refine wpAnyH_take (i := 32) (v := .pointer (some ⟨Wb, 9, none⟩)) rfl (by kernel_rfl) (by kernel_rfl) (by kernel_rfl) (fun _ _ _ h => h) (Or.inl ⟨by rfl, fun w hSw => by (try dsimp only at hSw); go_simp⟩) hS ?_
      refine wpAnyH_ready (rs := [33]) (by kernel_rfl) (by simp) (AllReadyH.cons rfl (fun K hK => ?_) AllReadyH.nil)
      have bW4 := hfar.out _ hgr _ _ _ _ bW.out (by decide)
      have j9 : w4.cell? ⟨Wb, 9, none⟩ = some v := Blk.cell (t := 35) bW4 rfl
      have jf : w4.frozen? ⟨Wb, 9, none⟩ = false := Blk.free (t := 35) bW4 9
      go_simp
      refine hK.out _ _ (hSof.out _ ((Below.heap_setCell w4 ⟨Wb, 9, none⟩ _ H hne.2.2.2).trans (hfar.out _ hgr _ _ _ _ bH.out (by decide))) ((Below.heap_setCell w4 ⟨Wb, 9, none⟩ _ P hPW.out).trans (hfar.out _ hgr _ _ _ _ bP.out (by decide))) ((Below.heap_setCell w4 ⟨Wb, 9, none⟩ _ A2 hAW.out).trans (hfar.out _ hgr _ _ _ _ bA.out (by decide)))) (fun hS => ?_)
      refine wpAnyH_done (by kernel_rfl) ?_ _
      have i4 := i3.grown (x := ⟨r'.point, !r'.laid, ⟨ak, af, av, ae⟩, 0, r'.laid⟩) hgr how
      clear how hgr hat hlt bW4 j9 jf hS hrow3 hnews hfar bH bP bA bW hSof hK K
      clear x9 fW9 m2 p2 p1 a0 a1 a2 a3 i3
      generalize w4.setCell ⟨Wb, 9, none⟩ _ = w5 at i4 ⊢
      have m1 := i4.cellH h1
      have fH1 := i4.freeH (o + 1)
      go_upto_region 13 with fail
      replace i4 := i4.setH (o + 1) (.pointer none)
      generalize w5.setCell ⟨H, o + 1, none⟩ (.pointer none) = w6 at i4 ⊢
      clear m1 fH1
      have x6 : w6.cell? ⟨Wb, 6, none⟩ = some (.pointer (some ⟨M, 0, none⟩)) := i4.cellW rfl
      go_wp2_with (go_at_call 30; with_reducible refine (cT _ _ _ _ i4).mono ?_; rintro e w0 ⟨rfl, rfl⟩)
      go_end0
      refine ⟨rfl, ?_⟩
      rw [hRz.out]
      refine ⟨0, ?_⟩
      rw [hfd]
      exact (std_idle (w0 := w) i4 (Same.set _ _ (by omega)) hsz (by rw [get_set_ne (by omega)]; exact hva) hact ( i4.cd) (get_set (by first | omega | (have := hszC; omega))) (by rw [get_set_ne (by omega)]; exact h5) (by rw [get_set_ne (by omega)]; exact h6))
  · rw [show decide (r'.pc = 6) = false by simp [hpc]] at cR
    replace hfn := hfn hpc
    clear hpc
    go_upto_region 4 with fail
    have ix := ix.drew
    replace hP : w1.drew.heap[P]? = _ := hP
    replace hSh : l.Sh w1.drew lo M G B P := hSh
    clear a0 a1 a2 a3
    go_region_held (fun wr => wr.cell? ⟨H, o + 3, none⟩ = some (.pointer (some ⟨P, 0, none⟩)) ∧ wr.cell? ⟨Wb, 6, none⟩ = some (.pointer (some ⟨M, 0, none⟩))) (first | with_reducible exact hS _ _ _ ix | with_reducible exact hS _ _ _ i2)
      ((go_at_call 33; with_reducible refine (cR _ ix hP hSh).mono ?_; rintro e w3 ⟨rfl, Q, c', i2, hP', hR', hSh2, hQl, hac⟩))
    have x6 : w3.cell? ⟨Wb, 6, none⟩ = some (.pointer (some ⟨M, 0, none⟩)) := i2.cellW rfl
    have hA9 := hcd _ i2 (hadr _ had _ hac)
    go_wp2_with (go_at_call 30; with_reducible refine (cT _ _ _ _ i2).mono ?_; rintro e w0 ⟨rfl, rfl⟩)
    go_end0
    refine ⟨rfl, ?_⟩
    rw [hRz.out]
    refine ⟨Q, ?_⟩
    rw [hfn]
    exact (std_busy (w0 := w) i2 (Same.refl _ _ _) hsz hva hact ( i2.cd) h1 hA9 ⟨h5, h6, P, c', h2, rfl, hP', hR', hro Q, hSh2⟩ hkk.out (fun i hi => by
      simp only [List.mem_cons] at hi
      rcases hi with rfl | hi
      · exact .inl hPm
      · rcases hqs Q i hi with k | k
        · exact .inl (by rw [hown]; simp [k])
        · right
          have hQ0 : w.heap.size ≤ Q := Nat.le_trans ix.cd.size hQl
          unfold La.qs at hi
          split at hi
          · rename_i s hs
            simp at hi
            subst hi
            obtain ⟨_, b1, b2, b3, b4, b5⟩ := hSh2 s hs
            have bW := lt_of_block ix.t.blk
            have bH := lt_of_block ix.hb
            exact ⟨by rw [k]; exact hQ0, b5, by omega, by omega, b2, b3, b4⟩
          · cases hi))
end Go.Proofs.YtnegdabcjnhpdaaGreatDoor
/- A step of a hand that lays, the act beginning. -/
namespace Go.Proofs.YtnegdabcjnhpdaaGreatDoor
open Go.RowKit
open Mm (IsMem MS touched Only)
open Hh (WT)
set_option maxRecDepth 100000 in
set_option maxHeartbeats 16000000 in
theorem step_lay_b {w : World} {lo Wb H M G B : Nat} {u : Wl} {v : Value} {C : Array Value} {o : Nat} {own : List Nat} {acts : List Ac} {a0 : Ac}
    (ht : Wt w lo Wb M G B u v) (hb : w.heap[H]? = some (.cells C 58 (0, 0))) (hh : HnAt w lo Wb H M G B C o own ⟨a0 :: acts, none⟩) (hn : 5 ≤ u.next ∧ u.next ≤ 40) (hk0 : (a0.norm u.next).kind = 1 ∨ (a0.norm u.next).kind = 2) (hne : H ≠ M ∧ H ≠ G ∧ H ≠ B ∧ H ≠ Wb) (hlo : lo ≤ H) (hT : u.g.T + 3 < 4611686018427387904) (hd : u.done.length < 1000000) :
    Calls Tryz.prog 13 #[.pointer (some ⟨H, o, none⟩), .pointer (some ⟨Wb, 0, none⟩)] w fun e w' => e = .returned (.tuple #[]) ∧ ∃ Q, Std w w' lo Wb H M G B C o own (fin (a0.norm u.next) acts (beg (a0.norm u.next) u).2.g.T (mstep B Q (a0.norm u.next) (beg (a0.norm u.next) u).1 (beg (a0.norm u.next) u).2)) := by
  obtain ⟨Rz, hRz⟩ : ∃ Rz : World → Prop, Hid (Rz = fun w' => ∃ Q, Std w w' lo Wb H M G B C o own (fin (a0.norm u.next) acts (beg (a0.norm u.next) u).2.g.T (mstep B Q (a0.norm u.next) (beg (a0.norm u.next) u).1 (beg (a0.norm u.next) u).2))) := ⟨_, rfl⟩
  refine Calls.mono (show Calls Tryz.prog 13 #[.pointer (some ⟨H, o, none⟩), .pointer (some ⟨Wb, 0, none⟩)] w (fun e w' => e = .returned (.tuple #[]) ∧ Rz w') from ?_) (fun e w' h => by rw [hRz.out] at h; exact h)
  have cB := begins2_any ht hb hh hne hlo (by omega) hn
  have hown0 := (hh.idle rfl).2.2.2
  have hsz := hh.sz
  have m0 : w.cell? ⟨H, o + 1, none⟩ = some (.pointer none) := Blk.cell (t := 58) hb (hh.idle rfl).1
  obtain ⟨a, ha⟩ : ∃ a, a0.norm u.next = a := ⟨_, rfl⟩
  rw [ha] at hk0 cB hRz
  clear ha
  obtain ⟨l, u1, hbeg, hu1, hu2⟩ : ∃ l u1, beg a u = (.lay l, u1) ∧ u1.g.T = u.g.T + 1 ∧ u1.done = u.done := by
    unfold beg
    rw [if_neg (by omega), if_neg (by omega)]
    exact ⟨_, _, rfl, rfl, rfl⟩
  have hd1 : u1.done.length < 1000000 := by rw [hu2]; exact hd
  clear hu2 hd
  unfold Bgd2 at cB
  rw [hbeg] at cB hRz
  simp only at cB hRz
  clear hbeg hk0 hh ht hb
  go_enter Tryz.func13, Tryz.ntmps13
  go_upto_region 1 with (go_at_call 29; with_reducible refine cB.mono ?_; rintro e wb ⟨rfl, C1, own1, ⟨va, hva, hact⟩, ht1, hb1, hs1, hh1, cd1, ho1⟩)
  clear cB m0
  have ix : Ix w wb lo Wb H M G B own1 u1 v C1 := ⟨ht1, hb1, cd1.mono (by simp), hne, hh1.own, hlo⟩
  have hszC : o + 10 ≤ C1.size := by rw [hs1.size]; exact hsz
  obtain ⟨A, h1, hA, hmc, hkd⟩ := hh1.busy a _ rfl
  obtain ⟨h5, h6, P, c, h2, hown, hP, hR, hRok, hSh⟩ := hmc
  replace hkd : a.kind = 1 ∨ a.kind = 2 := hkd
  have hPm : P ∈ own1 := by rw [hown]; simp
  have m1 := ix.cellH h1
  have x6 : wb.cell? ⟨Wb, 6, none⟩ = some (.pointer (some ⟨M, 0, none⟩)) := ix.cellW rfl
  have cA : ∀ {wr : World} {A : Nat} {a : Ac}, wr.heap[A]? = some (.cells (acC a) 51 (0, 0)) → wr.cell? ⟨A, 0, none⟩ = some (.int .i64 a.kind) ∧ wr.cell? ⟨A, 1, none⟩ = some (.int .i64 a.fld) ∧ wr.cell? ⟨A, 2, none⟩ = some (.int .i64 a.val) ∧ wr.cell? ⟨A, 3, none⟩ = some (.int .i64 a.expect) := fun {wr} {A} {a} (h : Blk wr A (acC a) 51) => ⟨h.cell rfl, h.cell rfl, h.cell rfl, h.cell rfl⟩
  obtain ⟨ak, af, av, ae⟩ := a
  replace hkd : ak = 1 ∨ ak = 2 := hkd
  have hk00 : ¬ ak = 0 := by omega
  have hk33 : ¬ ak = 3 := by omega
  have hkk : Hid (ak = 1 ∨ ak = 2) := hkd
  clear hkd
  obtain ⟨a0, a1, a2, a3⟩ := cA hA
  simp only at a0 a1 a2 a3
  have cT : ∀ wr u v C, Ix w wr lo Wb H M G B own1 u v C → Calls Tryz.prog 30 #[.pointer (some ⟨M, 0, none⟩)] wr fun e w' => e = .returned (.int .i64 u.g.T) ∧ wr = w' := fun wr u v C x => touchesX x.t.gw.mem
  have hTs := l.step_T KC B 0 u1.g
  have hQ := fun Q => l.step_Q0 KC B Q u1.g
  have cR : ∀ wr, Ix w wr lo Wb H M G B own1 u1 v C1 → wr.heap[P]? = some (.cells c 94 (0, 0)) → l.Sh wr lo M G B P → Calls Tryz.prog 33 #[.pointer (some ⟨P, 0, none⟩), .pointer (some ⟨M, 0, none⟩)] wr fun e w' => e = .returned (.bool (decide ((l.step KC B 0 u1.g).1.pc = 6))) ∧ ∃ Q c', Ix w w' lo Wb H M G B own1 { u1 with g := (l.step KC B 0 u1.g).2 } v C1 ∧ w'.heap[P]? = some (.cells c' 94 (0, 0)) ∧ LaAt c' B KC (l.step KC B Q u1.g).1 ∧ (l.step KC B Q u1.g).1.Sh w' lo M G B P ∧ wr.heap.size ≤ Q ∧ (∀ (i : Nat) (cc : Array Value) (f : Nat × Nat), wr.heap[i]? = some (.cells cc 51 f) → w'.heap[i]? = wr.heap[i]?) := fun wr x hp hs => by
    have hl7 : ∀ i ∈ P :: l.qs, ∃ cc t, wr.heap[i]? = some (.cells cc t (0, 0)) ∧ t ≠ 51 ∧ t ≠ 61 := fun i hi => by
      simp only [List.mem_cons] at hi
      rcases hi with rfl | hi
      · exact ⟨c, 94, hp, by decide, by decide⟩
      · exact La.qs_cells hs hi
    have hlL : ∀ i ∈ P :: l.qs, i ∈ own1 ∨ wr.heap.size ≤ i := fun i hi => .inl (by rw [hown]; exact hi)
    refine (la_any KC_ok (by decide) (x.inF hp hPm) hR hRok hs (by omega)).mono fun e w' ⟨Q, e1, e2, e3⟩ => ?_
    rw [(hQ Q).1] at e1
    obtain ⟨c', q1, q2⟩ := e2.blk
    have hcm : Cm lo (M :: G :: B :: P :: l.qs) wr w' := e2.cm.mono (fun i hi => by simp only [List.mem_cons] at hi ⊢; rcases hi with k | k | k | k | k <;> simp [k])
    have hgw := e2.gw
    rw [(hQ Q).2.1] at hgw
    exact ⟨e1, Q, c', x.mach hgw hcm hlL hl7, q1, q2, e2.sh, e3, (Ix.mach ⟨x.t, x.hb, Cd.refl _ _ _, x.ne, x.l, x.lo⟩ hgw hcm hlL hl7).cd.acts⟩
  have hro := fun Q => La.step_ok KC_ok (by decide) hRok Q (fun i => ht1.gw.mem.fits i) ht1.gw.now
  have hqs : ∀ Q, ∀ i ∈ (l.step KC B Q u1.g).1.qs, i ∈ l.qs ∨ i = Q := fun Q => l.step_qs KC B Q u1.g
  have hgT : decide (u1.g.T + 1 < (l.step KC B 0 u1.g).2.T) = false := by simp; omega
  have hfd : (l.step KC B 0 u1.g).1.pc = 6 → ∀ Q, fin ⟨ak, af, av, ae⟩ acts u1.g.T (mstep B Q ⟨ak, af, av, ae⟩ (.lay l) u1) = (⟨acts, none⟩, { u1 with g := (l.step KC B 0 u1.g).2, done := u1.done ++ [⟨(l.step KC B 0 u1.g).1.point, !(l.step KC B 0 u1.g).1.laid, ⟨ak, af, av, ae⟩, 0, (l.step KC B 0 u1.g).1.laid⟩] }) := fun h Q => by
    obtain ⟨q1, q2, q3, q4⟩ := hQ Q
    simp only [fin, mstep, q1, q2, q3, q4, h, if_true, hgT, Bool.or_false, Option.map_none]
  have hfn : ¬ (l.step KC B 0 u1.g).1.pc = 6 → ∀ Q, fin ⟨ak, af, av, ae⟩ acts u1.g.T (mstep B Q ⟨ak, af, av, ae⟩ (.lay l) u1) = (⟨acts, some (⟨ak, af, av, ae⟩, .lay (l.step KC B Q u1.g).1)⟩, { u1 with g := (l.step KC B 0 u1.g).2 }) := fun h Q => by
    obtain ⟨q1, q2, q3, q4⟩ := hQ Q
    simp only [fin, mstep, q1, q2, h, if_false, hgT, Bool.or_false, Option.map_some]
  have hQ1 : ∀ Q, (l.step KC B Q u1.g).1.point = (l.step KC B 0 u1.g).1.point ∧ (l.step KC B Q u1.g).1.laid = (l.step KC B 0 u1.g).1.laid := fun Q => ⟨(hQ Q).2.2.1, (hQ Q).2.2.2⟩
  clear hQ
  obtain ⟨L1, hL1⟩ : ∃ L1 : Nat → La, (fun Q => (l.step KC B Q u1.g).1) = L1 := ⟨_, rfl⟩
  replace hL1 : ∀ Q, (l.step KC B Q u1.g).1 = L1 Q := fun Q => congrFun hL1 Q
  simp only [hL1] at hTs cR hro hqs hgT hfd hfn hQ1
  clear hL1
  generalize (l.step KC B 0 u1.g).2 = g' at *
  generalize hr' : L1 0 = r' at *
  clear hr'
  have hTT : ¬ u1.g.T + 1 < g'.T := by omega
  have hgb : -4611686018427387904 < u1.g.T ∧ u1.g.T < 4611686018427387904 := by have := ht1.gw.tb; omega
  clear hgT
  have hcd : ∀ w', Ix w w' lo Wb H M G B own1 { u1 with g := g' } v C1 → (∀ (i : Nat) (cc : Array Value) (f : Nat × Nat), wb.heap[i]? = some (.cells cc 51 f) → w'.heap[i]? = wb.heap[i]?) → w'.heap[A]? = some (.cells (acC ⟨ak, af, av, ae⟩) 51 (0, 0)) := fun w' x hx => (hx A _ _ hA).trans hA
  have hS : ∀ wr u v, Ix w wr lo Wb H M G B own1 u v C1 → wr.cell? ⟨H, o + 3, none⟩ = some (.pointer (some ⟨P, 0, none⟩)) ∧ wr.cell? ⟨Wb, 6, none⟩ = some (.pointer (some ⟨M, 0, none⟩)) := fun wr u v x => ⟨x.cellH h2, x.cellW rfl⟩
  have hadr : ∀ wr : World, (∀ (i : Nat) (cc : Array Value) (f : Nat × Nat), wb.heap[i]? = some (.cells cc 51 f) → wr.heap[i]? = wb.heap[i]?) → ∀ w' : World, (∀ (i : Nat) (cc : Array Value) (f : Nat × Nat), wr.heap[i]? = some (.cells cc 51 f) → w'.heap[i]? = wr.heap[i]?) → (∀ (i : Nat) (cc : Array Value) (f : Nat × Nat), wb.heap[i]? = some (.cells cc 51 f) → w'.heap[i]? = wb.heap[i]?) := fun wr h w' h' i cc f hi => by
    have e := h i cc f hi
    rw [h' i cc f (e.trans hi), e]
  clear hR hRok hh1 hb1 hT
  go_upto_region 3 with (go_at_call 30; with_reducible refine (cT _ _ _ _ ix).mono ?_; rintro e w0 ⟨rfl, rfl⟩)
  have hA2 : Blk (wb.alloc (.cells #[.int .i64 ak, .int .i64 af, .int .i64 av, .int .i64 ae] 51)) wb.heap.size (acC ⟨ak, af, av, ae⟩) 51 := new_obj wb _
  have bA := alloc_below wb (.cells #[.int .i64 ak, .int .i64 af, .int .i64 av, .int .i64 ae] 51)
  replace ix := ix.below bA
  replace hP := (bA.block P (lt_of_block hP)).trans hP
  have had := fun (i : Nat) (cc : Array Value) (f : Nat × Nat) (hi : wb.heap[i]? = some (.cells cc 51 f)) => bA.block i (lt_of_block hi)
  replace hSh : l.Sh (wb.alloc (.cells #[.int .i64 ak, .int .i64 af, .int .i64 av, .int .i64 ae] 51)) lo M G B P := fun s hs => by
    obtain ⟨q1, q2⟩ := hSh s hs
    exact ⟨IsShd.cm (lo := lo) (L := []) q1 (Cm.of_below bA) (by simp), q2⟩
  clear bA a0 a1 a2 a3 m1 x6
  generalize wb.alloc (.cells #[.int .i64 ak, .int .i64 af, .int .i64 av, .int .i64 ae] 51) = w1 at *
  generalize hA2e : wb.heap.size = A2 at *
  replace hA2e : Hid (wb.heap.size = A2) := hA2e
  obtain ⟨a0, a1, a2, a3⟩ := cA hA2
  simp only at a0 a1 a2 a3
  by_cases hpc : r'.pc = 6
  · rw [show decide (r'.pc = 6) = true by simp [hpc]] at cR
    replace hfd := hfd hpc
    clear hpc
    go_upto_region 4 with fail
    have ix := ix.drew
    replace hP : w1.drew.heap[P]? = _ := hP
    replace hSh : l.Sh w1.drew lo M G B P := hSh
    clear a0 a1 a2 a3
    go_region_held (fun wr => wr.cell? ⟨H, o + 3, none⟩ = some (.pointer (some ⟨P, 0, none⟩)) ∧ wr.cell? ⟨Wb, 6, none⟩ = some (.pointer (some ⟨M, 0, none⟩))) (first | with_reducible exact hS _ _ _ ix | with_reducible exact hS _ _ _ i2)
      ((go_at_call 33; with_reducible refine (cR _ ix hP hSh).mono ?_; rintro e w3 ⟨rfl, Q, c', i2, hP', hR', hSh2, hQl, hac⟩))
    have hA3 : Blk w3 A2 (acC ⟨ak, af, av, ae⟩) 51 := (hac A2 _ _ hA2).trans hA2
    go_upto_region 5 with fail
    clear hac
    have i3 := i2.drew
    have hP3 : w3.drew.heap[P]? = some (.cells c' 94 (0, 0)) := hP'
    obtain ⟨a0, a1, a2, a3⟩ := cA (show w3.drew.heap[A2]? = _ from hA3)
    simp only at a0 a1 a2 a3
    have x9 : w3.drew.cell? ⟨Wb, 9, none⟩ = some v := i3.cellW rfl
    have fW9 := i3.freeW 9
    have m2 := i3.cellH h2
    have p2 : w3.drew.cell? ⟨P, 1, none⟩ = some (.int .i64 r'.point) := by
      have := Blk.cell (t := 94) hP3 hR'.point
      rw [(hQ1 Q).1] at this; exact this
    have p1 : w3.drew.cell? ⟨P, 0, none⟩ = some (.bool r'.laid) := by
      have := Blk.cell (t := 94) hP3 hR'.laid
      rw [(hQ1 Q).2] at this; exact this
    have y9 : (w3.alloc (.cells #[.int .i64 r'.point, .bool (!r'.laid), .int .i64 ak, .int .i64 af, .int .i64 av, .int .i64 ae, .int .i64 0, .bool r'.laid] 61)).drew.cell? ⟨Wb, 9, none⟩ = some v := (i3.below (alloc_below _ (.cells #[.int .i64 r'.point, .bool (!r'.laid), .int .i64 ak, .int .i64 af, .int .i64 av, .int .i64 ae, .int .i64 0, .bool r'.laid] 61))).cellW rfl
    clear i2
    have hRP := (hQ1 Q).1
    have hRL := (hQ1 Q).2
    obtain ⟨i86, z86, hi86, hz86, hs86, hb86, hzs86⟩ := inf86
    have iA := i3.below (alloc_below w3.drew (.cells #[.int .i64 r'.point, .bool (!r'.laid), .int .i64 ak, .int .i64 af, .int .i64 av, .int .i64 ae, .int .i64 0, .bool r'.laid] 61))
    have hrow3 : (w3.alloc (.cells #[.int .i64 r'.point, .bool (!r'.laid), .int .i64 ak, .int .i64 af, .int .i64 av, .int .i64 ae, .int .i64 0, .bool r'.laid] 61)).drew.ownsRow lo 61 8 v u1.done.length (dnR u1.done) := iA.t.row
    have hnews : ∀ j u, (dnC ⟨r'.point, !r'.laid, ⟨ak, af, av, ae⟩, 0, r'.laid⟩)[j]? = some u → (w3.alloc (.cells #[.int .i64 r'.point, .bool (!r'.laid), .int .i64 ak, .int .i64 af, .int .i64 av, .int .i64 ae, .int .i64 0, .bool r'.laid] 61)).drew.cell? ((⟨w3.heap.size, 0, none⟩ : Addr).add j) = some u := World.news_of_block (cs := (dnC ⟨r'.point, !r'.laid, ⟨ak, af, av, ae⟩, 0, r'.laid⟩).toArray) (t := 61) (fr := (0, 0)) (heap_alloc_new w3.drew (.cells #[.int .i64 r'.point, .bool (!r'.laid), .int .i64 ak, .int .i64 af, .int .i64 av, .int .i64 ae, .int .i64 0, .bool r'.laid] 61))
    have hmx : u1.done.length + 1 ≤ maxLen := by unfold maxLen; have := hd1; omega
    have hby : (u1.done.length + 1) * 64 ≤ 140737488355328 := by have := hd1; omega
    have hbs : lo ≤ (w3.alloc (.cells #[.int .i64 r'.point, .bool (!r'.laid), .int .i64 ak, .int .i64 af, .int .i64 av, .int .i64 ae, .int .i64 0, .bool r'.laid] 61)).drew.heap.size := iA.t.gw.lo1.2.2.2.2
    have hfar : ∀ w4, ((w3.alloc (.cells #[.int .i64 r'.point, .bool (!r'.laid), .int .i64 ak, .int .i64 af, .int .i64 av, .int .i64 ae, .int .i64 0, .bool r'.laid] 61)).drew).grownBy w4 v.ownBlock → ∀ (i : Nat) (c : Array Value) (t : TypeId) (f : Nat × Nat), (w3.alloc (.cells #[.int .i64 r'.point, .bool (!r'.laid), .int .i64 ak, .int .i64 af, .int .i64 av, .int .i64 ae, .int .i64 0, .bool r'.laid] 61)).drew.heap[i]? = some (.cells c t f) → t ≠ 61 → w4.heap[i]? = some (.cells c t f) := fun w4 hg i c t f hi ht => (hg.block i (lt_of_block hi) (row_far hrow3 hi ht)).trans hi
    have bH : (w3.alloc (.cells #[.int .i64 r'.point, .bool (!r'.laid), .int .i64 ak, .int .i64 af, .int .i64 av, .int .i64 ae, .int .i64 0, .bool r'.laid] 61)).drew.heap[H]? = some (.cells C1 58 (0, 0)) := iA.hb
    have bP : (w3.alloc (.cells #[.int .i64 r'.point, .bool (!r'.laid), .int .i64 ak, .int .i64 af, .int .i64 av, .int .i64 ae, .int .i64 0, .bool r'.laid] 61)).drew.heap[P]? = some (.cells c' 94 (0, 0)) := ((alloc_below w3.drew (.cells #[.int .i64 r'.point, .bool (!r'.laid), .int .i64 ak, .int .i64 af, .int .i64 av, .int .i64 ae, .int .i64 0, .bool r'.laid] 61)).block P (lt_of_block hP3)).trans hP3
    have bA : (w3.alloc (.cells #[.int .i64 r'.point, .bool (!r'.laid), .int .i64 ak, .int .i64 af, .int .i64 av, .int .i64 ae, .int .i64 0, .bool r'.laid] 61)).drew.heap[A2]? = some (.cells (acC ⟨ak, af, av, ae⟩) 51 (0, 0)) := ((alloc_below w3.drew (.cells #[.int .i64 r'.point, .bool (!r'.laid), .int .i64 ak, .int .i64 af, .int .i64 av, .int .i64 ae, .int .i64 0, .bool r'.laid] 61)).block A2 (lt_of_block (show w3.drew.heap[A2]? = _ from hA3))).trans hA3
    have bW : (w3.alloc (.cells #[.int .i64 r'.point, .bool (!r'.laid), .int .i64 ak, .int .i64 af, .int .i64 av, .int .i64 ae, .int .i64 0, .bool r'.laid] 61)).drew.heap[Wb]? = some (.cells (wlC M B u1.next v u1.bad) 35 (0, 0)) := iA.t.blk
    have hPW : P ≠ Wb := by rintro rfl; rw [bP] at bW; cases bW
    have hAW : A2 ≠ Wb := by rintro rfl; rw [bA] at bW; cases bW
    have hSof : ∀ wq : World, wq.heap[H]? = some (.cells C1 58 (0, 0)) → wq.heap[P]? = some (.cells c' 94 (0, 0)) → wq.heap[A2]? = some (.cells (acC ⟨ak, af, av, ae⟩) 51 (0, 0)) → (fun wq : World => wq.cell? ⟨H, o + 3, none⟩ = some (.pointer (some ⟨P, 0, none⟩)) ∧ wq.cell? ⟨P, 1, none⟩ = some (.int .i64 r'.point) ∧ wq.cell? ⟨P, 0, none⟩ = some (.bool r'.laid) ∧ wq.cell? ⟨A2, 0, none⟩ = some (.int .i64 ak) ∧ wq.cell? ⟨A2, 1, none⟩ = some (.int .i64 af) ∧ wq.cell? ⟨A2, 2, none⟩ = some (.int .i64 av) ∧ wq.cell? ⟨A2, 3, none⟩ = some (.int .i64 ae)) wq := fun wq e1 e2 e3 => by
      obtain ⟨z0, z1, z2, z3⟩ := cA e3
      exact ⟨Blk.cell (t := 58) e1 h2, by rw [← hRP]; exact Blk.cell (t := 94) e2 hR'.point, by rw [← hRL]; exact Blk.cell (t := 94) e2 hR'.laid, z0, z1, z2, z3⟩
    have hS : (fun wq : World => wq.cell? ⟨H, o + 3, none⟩ = some (.pointer (some ⟨P, 0, none⟩)) ∧ wq.cell? ⟨P, 1, none⟩ = some (.int .i64 r'.point) ∧ wq.cell? ⟨P, 0, none⟩ = some (.bool r'.laid) ∧ wq.cell? ⟨A2, 0, none⟩ = some (.int .i64 ak) ∧ wq.cell? ⟨A2, 1, none⟩ = some (.int .i64 af) ∧ wq.cell? ⟨A2, 2, none⟩ = some (.int .i64 av) ∧ wq.cell? ⟨A2, 3, none⟩ = some (.int .i64 ae)) w3.drew := hSof _ i3.hb hP3 hA3
    clear iA
    replace hfar : Hid _ := hfar
    replace hi86 : Hid _ := hi86
    replace hz86 : Hid _ := hz86
    replace hs86 : Hid _ := hs86
    replace hb86 : Hid _ := hb86
    replace hzs86 : Hid _ := hzs86
    replace hmx : Hid _ := hmx
    replace hby : Hid _ := hby
    replace hbs : Hid _ := hbs
    replace hPW : Hid _ := hPW
    replace hAW : Hid _ := hAW
    clear hRP hRL
    replace hSof : Hid _ := hSof
    replace hnews : Hid _ := hnews
    replace hrow3 : Hid _ := hrow3
    replace bH : Hid _ := bH
    replace bP : Hid _ := bP
    replace bA : Hid _ := bA
    replace bW : Hid _ := bW
    refine wp_region_held_drew (S := (fun wq : World => wq.cell? ⟨H, o + 3, none⟩ = some (.pointer (some ⟨P, 0, none⟩)) ∧ wq.cell? ⟨P, 1, none⟩ = some (.int .i64 r'.point) ∧ wq.cell? ⟨P, 0, none⟩ = some (.bool r'.laid) ∧ wq.cell? ⟨A2, 0, none⟩ = some (.int .i64 ak) ∧ wq.cell? ⟨A2, 1, none⟩ = some (.int .i64 af) ∧ wq.cell? ⟨A2, 2, none⟩ = some (.int .i64 av) ∧ wq.cell? ⟨A2, 3, none⟩ = some (.int .i64 ae))) (by kernel_rfl) hS (fun hS => ?_)
    refine wpAnyH_take (i := 0) (v := .pointer (some ⟨Wb, 0, none⟩)) rfl (by kernel_rfl) (by kernel_rfl) (by kernel_rfl) (fun _ _ _ h => h) (Or.inl ⟨by rfl, fun w hSw => by (try dsimp only at hSw); go_simp⟩) hS ?_
    refine wpAnyH_take (i := 1) (v := .pointer (some ⟨Wb, 0, none⟩)) rfl (by kernel_rfl) (by kernel_rfl) (by kernel_rfl) (fun _ _ _ h => h) (Or.inl ⟨by rfl, fun w hSw => by (try dsimp only at hSw); go_simp⟩) hS ?_
    refine wpAnyH_take (i := 2) (v := .pointer (some ⟨Wb, 0, none⟩)) rfl (by kernel_rfl) (by kernel_rfl) (by kernel_rfl) (fun _ _ _ h => h) (Or.inl ⟨by rfl, fun w hSw => by (try dsimp only at hSw); go_simp⟩) hS ?_
    refine wpAnyH_take (i := 3) (v := .pointer (some ⟨Wb, 9, none⟩)) rfl (by kernel_rfl) (by kernel_rfl) (by kernel_rfl) (fun _ _ _ h => h) (Or.inl ⟨by rfl, fun w hSw => by (try dsimp only at hSw); go_simp⟩) hS ?_
    refine wpAnyH_take (i := 5) (v := .pointer (some ⟨H, o, none⟩)) rfl (by kernel_rfl) (by kernel_rfl) (by kernel_rfl) (fun _ _ _ h => h) (Or.inl ⟨by rfl, fun w hSw => by (try dsimp only at hSw); go_simp⟩) hS ?_
    refine wpAnyH_take (i := 6) (v := .pointer (some ⟨H, o, none⟩)) rfl (by kernel_rfl) (by kernel_rfl) (by kernel_rfl) (fun _ _ _ h => h) (Or.inl ⟨by rfl, fun w hSw => by (try dsimp only at hSw); go_simp⟩) hS ?_
    refine wpAnyH_take (i := 7) (v := .pointer (some ⟨H, o + 3, none⟩)) rfl (by kernel_rfl) (by kernel_rfl) (by kernel_rfl) (fun _ _ _ h => h) (Or.inl ⟨by rfl, fun w hSw => by (try dsimp only at hSw); go_simp⟩) hS ?_
    refine wpAnyH_take (i := 8) (v := .pointer (some ⟨P, 0, none⟩)) rfl (by kernel_rfl) (by kernel_rfl) (by kernel_rfl) (fun _ _ _ h => h) (Or.inl ⟨by rfl, fun w hSw => by (try dsimp only at hSw); go_simp⟩) hS ?_
    refine wpAnyH_take (i := 9) (v := .pointer (some ⟨P, 0, none⟩)) rfl (by kernel_rfl) (by kernel_rfl) (by kernel_rfl) (fun _ _ _ h => h) (Or.inl ⟨by rfl, fun w hSw => by (try dsimp only at hSw); go_simp⟩) hS ?_
    refine wpAnyH_take (i := 10) (v := .pointer (some ⟨P, 1, none⟩)) rfl (by kernel_rfl) (by kernel_rfl) (by kernel_rfl) (fun _ _ _ h => h) (Or.inl ⟨by rfl, fun w hSw => by (try dsimp only at hSw); go_simp⟩) hS ?_
    refine wpAnyH_take (i := 11) (v := .int .i64 r'.point) rfl (by kernel_rfl) (by kernel_rfl) (by kernel_rfl) (fun _ _ _ h => h) (Or.inl ⟨by rfl, fun w hSw => by (try dsimp only at hSw); go_simp⟩) hS ?_
    refine wpAnyH_take (i := 12) (v := .pointer (some ⟨H, o, none⟩)) rfl (by kernel_rfl) (by kernel_rfl) (by kernel_rfl) (fun _ _ _ h => h) (Or.inl ⟨by rfl, fun w hSw => by (try dsimp only at hSw); go_simp⟩) hS ?_
    refine wpAnyH_take (i := 13) (v := .pointer (some ⟨H, o, none⟩)) rfl (by kernel_rfl) (by kernel_rfl) (by kernel_rfl) (fun _ _ _ h => h) (Or.inl ⟨by rfl, fun w hSw => by (try dsimp only at hSw); go_simp⟩) hS ?_
    refine wpAnyH_take (i := 14) (v := .pointer (some ⟨H, o + 3, none⟩)) rfl (by kernel_rfl) (by kernel_rfl) (by kernel_rfl) (fun _ _ _ h => h) (Or.inl ⟨by rfl, fun w hSw => by (try dsimp only at hSw); go_simp⟩) hS ?_
    refine wpAnyH_take (i := 15) (v := .pointer (some ⟨P, 0, none⟩)) rfl (by kernel_rfl) (by kernel_rfl) (by kernel_rfl) (fun _ _ _ h => h) (Or.inl ⟨by rfl, fun w hSw => by (try dsimp only at hSw); go_simp⟩) hS ?_
    refine wpAnyH_take (i := 16) (v := .pointer (some ⟨P, 0, none⟩)) rfl (by kernel_rfl) (by kernel_rfl) (by kernel_rfl) (fun _ _ _ h => h) (Or.inl ⟨by rfl, fun w hSw => by (try dsimp only at hSw); go_simp⟩) hS ?_
    refine wpAnyH_take (i := 17) (v := .pointer (some ⟨P, 0, none⟩)) rfl (by kernel_rfl) (by kernel_rfl) (by kernel_rfl) (fun _ _ _ h => h) (Or.inl ⟨by rfl, fun w hSw => by (try dsimp only at hSw); go_simp⟩) hS ?_
    refine wpAnyH_take (i := 18) (v := .bool r'.laid) rfl (by kernel_rfl) (by kernel_rfl) (by kernel_rfl) (fun _ _ _ h => h) (Or.inl ⟨by rfl, fun w hSw => by (try dsimp only at hSw); go_simp⟩) hS ?_
    refine wpAnyH_take (i := 19) (v := .bool (!r'.laid)) rfl (by kernel_rfl) (by kernel_rfl) (by kernel_rfl) (fun _ _ _ h => h) (Or.inl ⟨by rfl, fun w hSw => by (try dsimp only at hSw); go_simp⟩) hS ?_
    refine wpAnyH_take (i := 20) (v := .agg #[.int .i64 ak, .int .i64 af, .int .i64 av, .int .i64 ae]) rfl (by kernel_rfl) (by kernel_rfl) (by kernel_rfl) (fun _ _ _ h => h) (Or.inl ⟨by rfl, fun w hSw => by (try dsimp only at hSw); go_simp⟩) hS ?_
    refine wpAnyH_take (i := 21) (v := .pointer (some ⟨H, o, none⟩)) rfl (by kernel_rfl) (by kernel_rfl) (by kernel_rfl) (fun _ _ _ h => h) (Or.inl ⟨by rfl, fun w hSw => by (try dsimp only at hSw); go_simp⟩) hS ?_
    refine wpAnyH_take (i := 22) (v := .pointer (some ⟨H, o, none⟩)) rfl (by kernel_rfl) (by kernel_rfl) (by kernel_rfl) (fun _ _ _ h => h) (Or.inl ⟨by rfl, fun w hSw => by (try dsimp only at hSw); go_simp⟩) hS ?_
    refine wpAnyH_take (i := 23) (v := .pointer (some ⟨H, o + 3, none⟩)) rfl (by kernel_rfl) (by kernel_rfl) (by kernel_rfl) (fun _ _ _ h => h) (Or.inl ⟨by rfl, fun w hSw => by (try dsimp only at hSw); go_simp⟩) hS ?_
    refine wpAnyH_take (i := 24) (v := .pointer (some ⟨P, 0, none⟩)) rfl (by kernel_rfl) (by kernel_rfl) (by kernel_rfl) (fun _ _ _ h => h) (Or.inl ⟨by rfl, fun w hSw => by (try dsimp only at hSw); go_simp⟩) hS ?_
    refine wpAnyH_take (i := 25) (v := .pointer (some ⟨P, 0, none⟩)) rfl (by kernel_rfl) (by kernel_rfl) (by kernel_rfl) (fun _ _ _ h => h) (Or.inl ⟨by rfl, fun w hSw => by (try dsimp only at hSw); go_simp⟩) hS ?_
    refine wpAnyH_take (i := 26) (v := .pointer (some ⟨P, 0, none⟩)) rfl (by kernel_rfl) (by kernel_rfl) (by kernel_rfl) (fun _ _ _ h => h) (Or.inl ⟨by rfl, fun w hSw => by (try dsimp only at hSw); go_simp⟩) hS ?_
    refine wpAnyH_take (i := 27) (v := .bool r'.laid) rfl (by kernel_rfl) (by kernel_rfl) (by kernel_rfl) (fun _ _ _ h => h) (Or.inl ⟨by rfl, fun w hSw => by (try dsimp only at hSw); go_simp⟩) hS ?_
    refine wpAnyH_take (i := 28) (v := .agg #[.int .i64 r'.point, .bool (!r'.laid), .int .i64 ak, .int .i64 af, .int .i64 av, .int .i64 ae, .int .i64 0, .bool r'.laid]) rfl (by kernel_rfl) (by kernel_rfl) (by kernel_rfl) (fun _ _ _ h => h) (Or.inl ⟨by rfl, fun w hSw => by (try dsimp only at hSw); go_simp⟩) hS ?_
    refine wpAnyH_ready (rs := [4, 29]) (by kernel_rfl) (by simp) ?_
    refine AllReadyH.cons rfl (fun K hK => ?_) (AllReadyH.cons rfl (fun K hK => ?_) AllReadyH.nil)
    · skip
      go_simp
      refine hK.out _ _ hS (fun hS => ?_)
      clear hK K
      refine wpAnyH_ready (rs := [29]) (by kernel_rfl) (by simp) (AllReadyH.cons rfl (fun K hK => ?_) AllReadyH.nil)
      go_simp
      refine hK.out _ _ (hSof.out _ bH.out bP.out bA.out) (fun hS => ?_)
      clear hK K
      refine wpAnyH_ready (rs := [30]) (by kernel_rfl) (by simp) (AllReadyH.cons rfl (fun K hK => ?_) AllReadyH.nil)
      refine step_append_lies _ (by rfl) _ _ _ (by rfl) lo 61 i86 z86 8 64 Tryz.underlying33 hi86.out hz86.out hs86.out hb86.out hzs86.out (by omega) v u1.done.length (dnR u1.done) (by rfl) hrow3.out ⟨w3.heap.size, 0, none⟩ 1 1 (dnC ⟨r'.point, !r'.laid, ⟨ak, af, av, ae⟩, 0, r'.laid⟩) (by rfl) rfl hnews.out (by simp [dnC, Value.oneCell']) (by omega) hmx.out hby.out hbs.out _ rfl ?_
      intro g cap w4 how hgr hat hlt
      refine hK.out _ _ (hSof.out _ (hfar.out _ hgr _ _ _ _ bH.out (by decide)) (hfar.out _ hgr _ _ _ _ bP.out (by decide)) (hfar.out _ hgr _ _ _ _ bA.out (by decide))) (fun hS => ?_)
      refine wpAnyH_take (i := 31) (v := .pointer (some ⟨Wb, 0, none⟩)) rfl (by kernel_rfl) (by kernel_rfl) (by kernel_rfl) (fun _ _ _ h => h) (Or.inl ⟨by rfl, fun w hSw => by (try dsimp only at hSw); go_simp⟩) hS ?_
      refine wpAnyH_take (i := 32) (v := .pointer (some ⟨Wb, 9, none⟩)) rfl (by kernel_rfl) (by kernel_rfl) (by kernel_rfl) (fun _ _ _ h => h) (Or.inl ⟨by rfl, fun w hSw => by (try dsimp only at hSw); go_simp⟩) hS ?_
      refine wpAnyH_ready (rs := [33]) (by kernel_rfl) (by simp) (AllReadyH.cons rfl (fun K hK => ?_) AllReadyH.nil)
      have bW4 := hfar.out _ hgr _ _ _ _ bW.out (by decide)
      have j9 : w4.cell? ⟨Wb, 9, none⟩ = some v := Blk.cell (t := 35) bW4 rfl
      have jf : w4.frozen? ⟨Wb, 9, none⟩ = false := Blk.free (t := 35) bW4 9
      go_simp
      refine hK.out _ _ (hSof.out _ ((Below.heap_setCell w4 ⟨Wb, 9, none⟩ _ H hne.2.2.2).trans (hfar.out _ hgr _ _ _ _ bH.out (by decide))) ((Below.heap_setCell w4 ⟨Wb, 9, none⟩ _ P hPW.out).trans (hfar.out _ hgr _ _ _ _ bP.out (by decide))) ((Below.heap_setCell w4 ⟨Wb, 9, none⟩ _ A2 hAW.out).trans (hfar.out _ hgr _ _ _ _ bA.out (by decide)))) (fun hS => ?_)
      refine wpAnyH_done (by kernel_rfl) ?_ _
      have i4 := i3.grown (x := ⟨r'.point, !r'.laid, ⟨ak, af, av, ae⟩, 0, r'.laid⟩) hgr how
      clear how hgr hat hlt bW4 j9 jf hS hrow3 hnews hfar bH bP bA bW hSof hK K
      clear x9 fW9 m2 p2 p1 a0 a1 a2 a3 i3
      generalize w4.setCell ⟨Wb, 9, none⟩ _ = w5 at i4 ⊢
      have m1 := i4.cellH h1
      have fH1 := i4.freeH (o + 1)
      go_upto_region 13 with fail
      replace i4 := i4.setH (o + 1) (.pointer none)
      generalize w5.setCell ⟨H, o + 1, none⟩ (.pointer none) = w6 at i4 ⊢
      clear m1 fH1
      have x6 : w6.cell? ⟨Wb, 6, none⟩ = some (.pointer (some ⟨M, 0, none⟩)) := i4.cellW rfl
      go_wp2_with (go_at_call 30; with_reducible refine (cT _ _ _ _ i4).mono ?_; rintro e w0 ⟨rfl, rfl⟩)
      go_end0
      refine ⟨rfl, ?_⟩
      rw [hRz.out]
      refine ⟨0, ?_⟩
      rw [hfd]
      refine Std.mono (L := own1) (std_idle (w0 := w) i4 (hs1.trans (Same.set _ _ (by omega))) hsz (by rw [get_set_ne (by omega)]; exact hva) hact ( i4.cd) (get_set (by first | omega | (have := hszC; omega))) (by rw [get_set_ne (by omega)]; exact h5) (by rw [get_set_ne (by omega)]; exact h6)) (fun i hi => .inr (ho1 i hi))
    · skip
      go_simp
      refine hK.out _ _ (hSof.out _ bH.out bP.out bA.out) (fun hS => ?_)
      clear hK K
      refine wpAnyH_ready (rs := [4]) (by kernel_rfl) (by simp) (AllReadyH.cons rfl (fun K hK => ?_) AllReadyH.nil)
      go_simp
      refine hK.out _ _ hS (fun hS => ?_)
      clear hK K
      refine wpAnyH_ready (rs := [30]) (by kernel_rfl) (by simp) (AllReadyH.cons rfl (fun K hK => ?_) AllReadyH.nil)
      refine step_append_lies _ (by rfl) _ _ _ (by rfl) lo 61 i86 z86 8 64 Tryz.underlying33 hi86.out hz86.out hs86.out hb86.out hzs86.out (by omega) v u1.done.length (dnR u1.done) (by rfl) hrow3.out ⟨w3.heap.size, 0, none⟩ 1 1 (dnC ⟨r'.point, !r'.laid, ⟨ak, af, av, ae⟩, 0, r'.laid⟩) (by rfl) rfl hnews.out (by simp [dnC, Value.oneCell']) (by omega) hmx.out hby.out hbs.out _ rfl ?_
      intro g cap w4 how hgr hat hlt
      refine hK.out _ _ (hSof.out _ (hfar.out _ hgr _ _ _ _ bH.out (by decide)) (hfar.out _ hgr _ _ _ _ bP.out (by decide)) (hfar.out _ hgr _ _ _ _ bA.out (by decide))) (fun hS => ?_)
      refine wpAnyH_take (i := 31) (v := .pointer (some ⟨Wb, 0, none⟩)) rfl (by kernel_rfl) (by kernel_rfl) (by kernel_rfl) (fun _ _ _ h => h) (Or.inl ⟨by rfl, fun w hSw => by (try dsimp only at hSw); go_simp⟩) hS ?_
      refine wpAnyH_take (i := 32) (v := .pointer (some ⟨Wb, 9, none⟩)) rfl (by kernel_rfl) (by kernel_rfl) (by kernel_rfl) (fun _ _ _ h => h) (Or.inl ⟨by rfl, fun w hSw => by (try dsimp only at hSw); go_simp⟩) hS ?_
      refine wpAnyH_ready (rs := [33]) (by kernel_rfl) (by simp) (AllReadyH.cons rfl (fun K hK => ?_) AllReadyH.nil)
      have bW4 := hfar.out _ hgr _ _ _ _ bW.out (by decide)
      have j9 : w4.cell? ⟨Wb, 9, none⟩ = some v := Blk.cell (t := 35) bW4 rfl
      have jf : w4.frozen? ⟨Wb, 9, none⟩ = false := Blk.free (t := 35) bW4 9
      go_simp
      refine hK.out _ _ (hSof.out _ ((Below.heap_setCell w4 ⟨Wb, 9, none⟩ _ H hne.2.2.2).trans (hfar.out _ hgr _ _ _ _ bH.out (by decide))) ((Below.heap_setCell w4 ⟨Wb, 9, none⟩ _ P hPW.out).trans (hfar.out _ hgr _ _ _ _ bP.out (by decide))) ((Below.heap_setCell w4 ⟨Wb, 9, none⟩ _ A2 hAW.out).trans (hfar.out _ hgr _ _ _ _ bA.out (by decide)))) (fun hS => ?_)
      refine wpAnyH_done (by kernel_rfl) ?_ _
      have i4 := i3.grown (x := ⟨r'.point, !r'.laid, ⟨ak, af, av, ae⟩, 0, r'.laid⟩) hgr how
      clear how hgr hat hlt bW4 j9 jf hS hrow3 hnews hfar bH bP bA bW hSof hK K
      clear x9 fW9 m2 p2 p1 a0 a1 a2 a3 i3
      generalize w4.setCell ⟨Wb, 9, none⟩ _ = w5 at i4 ⊢
      have m1 := i4.cellH h1
      have fH1 := i4.freeH (o + 1)
      go_upto_region 13 with fail
      replace i4 := i4.setH (o + 1) (.pointer none)
      generalize w5.setCell ⟨H, o + 1, none⟩ (.pointer none) = w6 at i4 ⊢
      clear m1 fH1
      have x6 : w6.cell? ⟨Wb, 6, none⟩ = some (.pointer (some ⟨M, 0, none⟩)) := i4.cellW rfl
      go_wp2_with (go_at_call 30; with_reducible refine (cT _ _ _ _ i4).mono ?_; rintro e w0 ⟨rfl, rfl⟩)
      go_end0
      refine ⟨rfl, ?_⟩
      rw [hRz.out]
      refine ⟨0, ?_⟩
      rw [hfd]
      refine Std.mono (L := own1) (std_idle (w0 := w) i4 (hs1.trans (Same.set _ _ (by omega))) hsz (by rw [get_set_ne (by omega)]; exact hva) hact ( i4.cd) (get_set (by first | omega | (have := hszC; omega))) (by rw [get_set_ne (by omega)]; exact h5) (by rw [get_set_ne (by omega)]; exact h6)) (fun i hi => .inr (ho1 i hi))
  · rw [show decide (r'.pc = 6) = false by simp [hpc]] at cR
    replace hfn := hfn hpc
    clear hpc
    go_upto_region 4 with fail
    have ix := ix.drew
    replace hP : w1.drew.heap[P]? = _ := hP
    replace hSh : l.Sh w1.drew lo M G B P := hSh
    clear a0 a1 a2 a3
    go_region_held (fun wr => wr.cell? ⟨H, o + 3, none⟩ = some (.pointer (some ⟨P, 0, none⟩)) ∧ wr.cell? ⟨Wb, 6, none⟩ = some (.pointer (some ⟨M, 0, none⟩))) (first | with_reducible exact hS _ _ _ ix | with_reducible exact hS _ _ _ i2)
      ((go_at_call 33; with_reducible refine (cR _ ix hP hSh).mono ?_; rintro e w3 ⟨rfl, Q, c', i2, hP', hR', hSh2, hQl, hac⟩))
    have x6 : w3.cell? ⟨Wb, 6, none⟩ = some (.pointer (some ⟨M, 0, none⟩)) := i2.cellW rfl
    have hA9 := hcd _ i2 (hadr _ had _ hac)
    go_wp2_with (go_at_call 30; with_reducible refine (cT _ _ _ _ i2).mono ?_; rintro e w0 ⟨rfl, rfl⟩)
    go_end0
    refine ⟨rfl, ?_⟩
    rw [hRz.out]
    refine ⟨Q, ?_⟩
    rw [hfn]
    refine Std.mono (L := own1) (std_busy (w0 := w) i2 (hs1.trans (Same.refl _ _ _)) hsz hva hact ( i2.cd) h1 hA9 ⟨h5, h6, P, c', h2, rfl, hP', hR', hro Q, hSh2⟩ hkk.out (fun i hi => by
      simp only [List.mem_cons] at hi
      rcases hi with rfl | hi
      · exact .inl hPm
      · rcases hqs Q i hi with k | k
        · exact .inl (by rw [hown]; simp [k])
        · right
          have hQ0 : w.heap.size ≤ Q := Nat.le_trans ix.cd.size hQl
          unfold La.qs at hi
          split at hi
          · rename_i s hs
            simp at hi
            subst hi
            obtain ⟨_, b1, b2, b3, b4, b5⟩ := hSh2 s hs
            have bW := lt_of_block ix.t.blk
            have bH := lt_of_block ix.hb
            exact ⟨by rw [k]; exact hQ0, b5, by omega, by omega, b2, b3, b4⟩
          · cases hi)) (fun i hi => .inr (ho1 i hi))
end Go.Proofs.YtnegdabcjnhpdaaGreatDoor
